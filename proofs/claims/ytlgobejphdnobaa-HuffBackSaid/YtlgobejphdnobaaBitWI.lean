/- What Len and String of bits's writer return, for huff (contracts of the functions). -/
import Derived.Test.YtlgobejphdnobaaBitWH
import Derived.Laws.BytesArg
namespace Go.Proofs.Ytlgobejphdnobaa
open Go.RowKit
set_option linter.unusedVariables false

theorem WPost.refl {F : Nat → Prop} {w : World} {g k N : Nat} (h : WrF F w g k N) : WPost F g k N w w := ⟨F, h, Keeps.refl _ _, fun i hi => .inl hi⟩
set_option maxHeartbeats 400000 in
theorem wlen_any (F : Nat → Prop) (g k N : Nat) (w : World) (h : WrF F w g k N) :
    Calls Try.prog 25 #[.pointer (some ⟨g, 0, none⟩)] w fun e w' => e = .returned (.int .i64 k) ∧ w = w' := by
  obtain ⟨dv, _, _, hB, _⟩ := h
  have hc0 : w.cell? ⟨g, 0, none⟩ = some (.int .i64 k) := hB.blk.cell 0
  clear hB
  go_enter Try.func25, Try.ntmps25
  go_wp2
  go_ret
  exact ⟨rfl, rfl⟩
theorem WrF.fresh {w : World} {g : Nat} (h : Has w g 50 #[.int .i64 0, .slice none 0 0, .int .u8 0]) : WrF (· = g) w g 0 0 :=
  ⟨.slice none 0 0, rfl, fun b hb => by simp [Value.ownBlock] at hb, ⟨h, rfl, .inl ⟨rfl, rfl⟩⟩, by simp, fun i hi => by rw [hi]; exact h.lt⟩
theorem leN_zero_of {N k : Nat} (h : N < 2 ^ k) (d : Nat) (hd : k ≤ 8 * d) : hiN N d = 0 := Nat.div_eq_of_lt (Nat.lt_of_lt_of_le h (Nat.pow_le_pow_right (by decide) hd))
def strN (N d : Nat) : ByteArray := ⟨((List.range d).map fun j => UInt8.ofNat (hiN N j % 256)).toArray⟩
theorem strN_size (N d : Nat) : (strN N d).size = d := by simp [strN, ByteArray.size]
theorem strN_succ (N d : Nat) : strN N (d + 1) = strN N d ++ ⟨#[UInt8.ofNat (hiN N d % 256)]⟩ := by
  show (⟨_⟩ : ByteArray) = _
  rw [List.range_succ, List.map_append]
  simp [strN]
  rfl
theorem byteCells_get (N d i : Nat) (h : i < d) : (byteCells N d)[i]? = some (Value.int .u8 ((hiN N i % 256 : Nat) : Int)) := by simp [byteCells, h]
theorem own_cell {w : World} {e : TypeId} {n : Nat} {a : Addr} {cap : Nat} {xs : List Value} (h : w.ownsRow 0 e 1 (.slice (some a) n cap) n xs) {j : Nat} {u : Value} (hj : xs[j]? = some u) : w.cell? (a.add j) = some u := by
  rcases h.2 with ⟨h0, _⟩ | ⟨g, cap', cur, h0, _⟩
  · cases h0
  · have : a = ⟨g, 0, none⟩ := by injection h0 with h1; injection h1
    subst this
    exact h.cells (g := g) rfl j u hj
theorem conv_row {w : World} {N d : Nat} {v : Value} (h : w.ownsRow 0 5 1 v d (byteCells N d)) :
    (convert 48 9 v).run Try.prog w = .ok (.string (strN N d)) w := by
  obtain ⟨ao, cap, rfl⟩ := own_slice h
  cases ao with
  | none =>
    have h0 : d = 0 := by
      rcases h.2 with ⟨h1, h2⟩ | ⟨g, cap', cur, h1, _⟩
      · exact h2
      · cases h1
    subst h0
    exact run_convert_bytes_nil (P := Try.prog) (w := w) 48 5 Try.underlying48 Try.underlying5 0 cap 9 Try.underlying9
  | some a =>
    have hl : ((List.range d).map fun j => UInt8.ofNat (hiN N j % 256)).length = d := by simp
    have := run_convert_bytes_back (P := Try.prog) w 48 9 5 a cap ((List.range d).map fun j => UInt8.ofNat (hiN N j % 256)) Try.underlying48 Try.underlying5 Try.underlying9 (fun j hj => by
      have hj' : j < d := by simpa using hj
      rw [own_cell h (byteCells_get N d j hj')]
      simp)
    rw [hl] at this
    exact this
theorem wstr_nil (w : World) :
    Calls Try.prog 24 #[.pointer none] w fun e w' => e = .returned (.string ⟨#[]⟩) ∧ w = w' := by
  go_enter Try.func24, Try.ntmps24
  go_wp2
  go_ret
  exact ⟨rfl, rfl⟩
set_option maxHeartbeats 1000000 in
theorem wstr_even (F : Nat → Prop) (g k N : Nat) (hk : k ≤ 1152921504606846976) (q : Nat) (h8 : k = 8 * q) (w : World) (h : WrF F w g k N) :
    Calls Try.prog 24 #[.pointer (some ⟨g, 0, none⟩)] w fun e w' => e = .returned (.string (strN N q)) ∧ w = w' := by
  obtain ⟨dv, _, _, hB, hN, _⟩ := h
  have hq : k / 8 = q := by omega
  rw [hq] at hB
  have hc0 : w.cell? ⟨g, 0, none⟩ = some (.int .i64 k) := hB.blk.cell 0
  have hc1 : w.cell? ⟨g, 1, none⟩ = some dv := hB.blk.cell 1
  have hcv := conv_row hB.row
  have hbg := (begun_q g k 0 hk (by unfold Hid; omega) w hc0).mono (fun _ _ h => (⟨h.1, h.2.symm⟩ : _ ∧ w = _))
  have HB := hid hbg
  clear hB hbg hq h8
  go_enter Try.func24, Try.ntmps24
  go_wp2_with fail
  refine HB.out.mono ?_
  rintro e w' ⟨rfl, rfl⟩
  go_wp2
  go_ret
  exact ⟨rfl, rfl⟩
set_option maxRecDepth 100000 in
set_option maxHeartbeats 1000000 in
theorem wstr_odd (F : Nat → Prop) (g k N : Nat) (hk : k ≤ 1152921504606846976) (q r : Nat) (hr : 0 < r) (hr8 : r < 8) (h8 : Hid (k = 8 * q + r)) (w : World) (h : WrF F w g k N) :
    Calls Try.prog 24 #[.pointer (some ⟨g, 0, none⟩)] w fun e w' => e = .returned (.string (strN N (q + 1))) ∧ Bw w w' := by
  obtain ⟨dv, _, _, hB, hN, _⟩ := h
  have hq : k / 8 = q := by have := h8.out; omega
  have hll := last_lt hN
  rw [hq] at hB hll
  have hc0 : w.cell? ⟨g, 0, none⟩ = some (.int .i64 k) := hB.blk.cell 0
  have hbg := (begun_q g k r hk (by have := h8.out; unfold Hid; omega) w hc0).mono (fun _ _ h => (⟨h.1, h.2.symm⟩ : _ ∧ w = _))
  have HB := hid hbg
  have HBB := hid hB
  clear hB hbg hq hc0 hN
  have hz : ((r : Int) == 0) = false := by simp; omega
  go_enter Try.func24, Try.ntmps24
  go_wp2_with fail
  refine HB.out.mono ?_
  rintro e w' ⟨rfl, rfl⟩
  have hc1 : w.drew.cell? ⟨g, 1, none⟩ = some dv := HBB.out.blk.cell 1
  have hc2 : w.drew.cell? ⟨g, 2, none⟩ = some (.int .u8 (hiN N q : Nat)) := HBB.out.blk.cell 2
  have hcv : (convert 48 9 dv).run Try.prog w.drew = .ok (.string (strN N q)) w.drew := conv_row (HBB.out.drewN 1).row
  have hW2 : WrB (w.alloc (.cells #[.int .u8 (hiN N q : Nat)] 5)).drew g k dv (hiN N q) q (byteCells N q) := HBB.out.keep (((Keeps.refl (fun _ => False) w).alloc (.cells #[.int .u8 (hiN N q : Nat)] 5)).drewN 1) (fun h => h) (fun _ _ h => h)
  have hcv2 := conv_row hW2.row
  have hd1 : (w.alloc (.cells #[.int .u8 (hiN N q : Nat)] 5)).drew.cell? ⟨g, 1, none⟩ = some dv := hW2.blk.cell 1
  have hcv3 : (convert 48 9 (.slice (some ⟨w.heap.size, 0, none⟩) 1 1)).run Try.prog (w.alloc (.cells #[.int .u8 (hiN N q : Nat)] 5)).drew = .ok (.string ⟨#[UInt8.ofNat (hiN N q)]⟩) (w.alloc (.cells #[.int .u8 (hiN N q : Nat)] 5)).drew := by
    have hn := (Has.new w 5 #[.int .u8 (hiN N q : Nat)]).drew
    exact run_convert_bytes_back (P := Try.prog) _ 48 9 5 ⟨w.heap.size, 0, none⟩ 1 [UInt8.ofNat (hiN N q)] Try.underlying48 Try.underlying5 Try.underlying9 (fun j hj => by
      obtain rfl : j = 0 := by simpa using hj
      have := hn.cell 0
      simp [Addr.add, this]
      omega)
  clear hW2
  have hsz : (strN N q).size + 1 ≤ 9223372036854775807 := by rw [strN_size]; have := h8.out; omega
  go_wp2_with fail
  go_region
  all_goals go_wp2
  all_goals go_returns
  all_goals refine ⟨?_, (((Bw.refl w).alloc _).drewN 1)⟩
  all_goals rw [strN_succ, Nat.mod_eq_of_lt (show hiN N q < 256 by omega)]
  all_goals rfl
theorem wstr_any (F : Nat → Prop) (g k N : Nat) (hk : k ≤ 1152921504606846976) (w : World) (h : WrF F w g k N) :
    Calls Try.prog 24 #[.pointer (some ⟨g, 0, none⟩)] w fun e w' => e = .returned (.string (strN N ((k + 7) / 8))) ∧ Bw w w' := by
  by_cases hr : k % 8 = 0
  · rw [show (k + 7) / 8 = k / 8 by omega]
    refine (wstr_even F g k N hk (k / 8) (by omega) w h).mono ?_
    rintro e w' ⟨rfl, rfl⟩
    exact ⟨rfl, Bw.refl _⟩
  · rw [show (k + 7) / 8 = k / 8 + 1 by omega]
    exact wstr_odd F g k N hk (k / 8) (k % 8) (by omega) (by omega) (by unfold Hid; omega) w h
end Go.Proofs.Ytlgobejphdnobaa
