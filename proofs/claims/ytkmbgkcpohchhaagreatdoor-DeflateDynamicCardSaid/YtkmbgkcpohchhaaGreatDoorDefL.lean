import Derived.Test.YtkmbgkcpohchhaaGreatDoorDefF
/- live of deflate's laws (contract of the function). -/
namespace Go.Proofs.YtkmbgkcpohchhaaGreatDoor
open Go.RowKit Go.Conc
set_option linter.unusedVariables false
theorem toks_new (w : World) (t : TokR) (h : t.lit < 256) : ToksAt (w.alloc (.cells #[.int .u8 t.lit, .int .i64 t.len, .int .i64 t.dist] 29)) (some ⟨w.heap.size, 0, none⟩) [t] := fun i hi => by
  obtain rfl : i = 0 := by simpa using hi
  have hh := Has.new w 29 #[.int .u8 t.lit, .int .i64 t.len, .int .i64 t.dist]
  exact ⟨w.heap.size, 0, rfl, by simp, hh.cell 0, hh.cell 1, hh.cell 2, h⟩
set_option maxRecDepth 100000 in
theorem fix_a : outS (fixP [⟨97, 0, 0⟩]) = ⟨#[75, 4, 0]⟩ := by decide +kernel
theorem sto_nil : (⟨(stoL (⟨#[]⟩ : ByteArray).data.toList).toArray⟩ : ByteArray) = ⟨#[1, 0, 0, 255, 255]⟩ := by
  rw [stoL_last (by simp)]
  decide
theorem outS_pos {p : Nat × Nat} {r : List (Nat × Nat)} (h : 0 < p.2) : 0 < (outS (p :: r)).size := by
  unfold outS
  rw [strN_size, pcK]
  omega
theorem short_pos {a b : ByteArray} (ha : 0 < a.size) (hb : 0 < b.size) : 0 < (short2 a b).size := by
  unfold short2
  split <;> assumption
theorem def_ne (ts : List TokR) : defS ⟨#[]⟩ ts ≠ ⟨#[]⟩ := fun h => by
  have : 0 < (defS ⟨#[]⟩ ts).size := short_pos (short_pos (by rw [sto_nil]; decide) (outS_pos (by decide))) (outS_pos (by decide))
  rw [h] at this
  exact absurd this (by decide)
theorem toList_ne (d : ByteArray) (h : d ≠ ⟨#[]⟩) : d.toList.isEmpty = false := by
  have hne : d.toList ≠ [] := by
    intro h2
    apply h
    have : d.size = 0 ∨ 0 < d.size := by omega
    rcases this with h0 | h0
    · obtain ⟨a⟩ := d
      have : a = #[] := Array.eq_empty_of_size_eq_zero h0
      rw [this]
    · exfalso
      unfold ByteArray.toList at h2
      rw [ByteArray.toList.loop, if_pos h0] at h2
      have key : ∀ (n : Nat) (d : ByteArray) (i : Nat) (r : List UInt8), d.size - i = n → r ≠ [] → ByteArray.toList.loop d i r ≠ [] := by
        intro n
        induction n with
        | zero => intro d i r hn hr; rw [ByteArray.toList.loop, if_neg (by omega)]; simpa using hr
        | succ n ih => intro d i r hn hr; rw [ByteArray.toList.loop, if_pos (by omega)]; exact ih d (i + 1) _ (by omega) (by simp)
      exact key _ d _ _ rfl (by simp) h2
  simpa using hne
set_option maxRecDepth 100000 in
set_option maxHeartbeats 4000000 in
theorem live_any (w : World) (hO : OrdAt w) :
    Calls Tryz.prog 9 #[] w fun e w' => e = .returned (.bool true) ∧ Bw w w' := by
  have HO := hid hO
  have HF := hid (Fixed_ok (some ⟨w.heap.size, 0, none⟩) 1 1 (by decide) [⟨97, 0, 0⟩] (hid rfl) (by decide) _ (toks_new w ⟨97, 0, 0⟩ (by decide)))
  rw [fix_a] at HF
  have HD := hid (fun (W : World) => Dynamic_bad (some ⟨W.heap.size, 0, none⟩) 1 1 (by decide) [⟨0, 1, 0⟩] (hid rfl) (by decide) _ (toks_new W ⟨0, 1, 0⟩ (by decide)))
  have HS := hid (fun W => Stored_any ⟨#[]⟩ (by decide) W)
  rw [sto_nil] at HS
  have HE := hid (fun W h => Deflate_any ⟨#[]⟩ (by decide) W h)
  clear hO
  go_enter Tryz.func9, Tryz.ntmps9
  go_wp2_with fail
  refine HF.out.mono ?_
  rintro e w1 ⟨rfl, hb1⟩
  have HB1 := hid (show Bw w w1 from ((Bw.refl w).alloc _).trans hb1)
  clear hb1 HF
  go_wp2_with fail
  refine (HD.out w1).mono ?_
  rintro e w2 ⟨rfl, hb2⟩
  have HB2 := hid (show Bw w w2 from (HB1.out.alloc _).trans hb2)
  clear hb2 HD
  go_wp2_with fail
  refine (HS.out w2).mono ?_
  rintro e w3 ⟨rfl, hb3⟩
  have HB3 := hid (HB2.out.trans hb3)
  clear hb3
  go_wp2_with fail
  refine (HE.out w3 (HO.out.bw HB3.out)).mono ?_
  rintro e w4 ⟨ts, _, rfl, hb4, _⟩
  have HB4 := hid (HB3.out.trans hb4)
  have hne := def_ne ts
  generalize defS ⟨#[]⟩ ts = d at *
  have hd1 : decide (d = ⟨#[]⟩) = false := decide_eq_false hne
  have hd2 := toList_ne d hne
  clear hb4
  go_wp2_with fail
  go_returns
  exact ⟨rfl, HB4.out⟩
end Go.Proofs.YtkmbgkcpohchhaaGreatDoor
