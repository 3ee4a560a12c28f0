/- sfnt's Read (contract of the function). -/
import Derived.Test.YtciaebhkemdilabSfG
namespace Go.Proofs.Ytciaebhkemdilab
open Go.RowKit
set_option linter.unusedVariables false
set_option linter.unusedSimpArgs false
def SRdQ (s : ByteArray) (w : World) (e : Ending) (w' : World) : Prop :=
  Bw w w' ∧ ∃ a c, e = .returned (.tuple #[.int .u32 (readK s : Nat), .slice a (readL s).length c, .int .i64 (readE s)]) ∧ ChkAt w' a (readL s)
theorem tabs_at {s : ByteArray} (hs : s.size ≤ 1000000000) {n lb : Nat} {w : World} (h : RowZ 35 2 w lb n (tabF s n)) : ChkAt w (some ⟨lb, 0, none⟩) (tabsL s n) := fun i hi => by
  have hin : i < n := by rw [tabsL_len] at hi; exact hi
  have e : (tabsL s n)[i]'hi = tabOf s i := by simp [tabsL]
  have hf : tabF s n i = [.string (tagOf s i), .string (datOf s i)] := if_pos hin
  have c0 := h.cell (i := i) (j := 0) hin (by omega)
  have c1 := h.cell (i := i) (j := 1) hin (by omega)
  rw [hf] at c0 c1
  refine ⟨lb, 0, rfl, h.lt, ?_, ?_, ?_⟩
  · rw [e, Nat.zero_add]; exact c0
  · rw [e, Nat.zero_add]; exact c1
  · rw [e]
    refine ⟨?_, ?_⟩
    · show (tagOf s i).size ≤ _; unfold tagOf; simp; omega
    · show (datOf s i).size ≤ _; unfold datOf; simp; omega
theorem chk_nil (w : World) (a : Option Addr) : ChkAt w a [] := fun i hi => absurd hi (Nat.not_lt_zero i)
set_option maxRecDepth 100000 in
set_option maxHeartbeats 8000000 in
theorem sread_any (s : ByteArray) (hs : s.size ≤ 1000000000) (w : World) :
    Calls Try.prog 9 #[.string s] w (SRdQ s w) := by
  have hlm : s.size ≤ lim := by unfold lim; omega
  have HBD := hid (fun e w' (E : Int) (hb : Bw w w') (h0 : readE s = E) (h1 : E ≠ 0) (he : e = .returned (.tuple #[.int .u32 0, .slice none 0 0, .int .i64 E])) => (show SRdQ s w e w' from ⟨hb, none, 0, by rw [readK_bad (by rw [h0]; exact h1), readL_bad (by rw [h0]; exact h1), h0]; exact he, by rw [readL_bad (by rw [h0]; exact h1)]; exact chk_nil _ _⟩))
  have HGD := hid (fun e w' lb (hb : Bw w w') (h0 : readE s = 0) (he : e = .returned (.tuple #[.int .u32 (b4 s 0 : Nat), .slice (some ⟨lb, 0, none⟩) (b2 s 4) (b2 s 4), .int .i64 0])) (hr : RowZ 35 2 w' lb (b2 s 4) (tabF s (b2 s 4))) => (show SRdQ s w e w' from ⟨hb, some ⟨lb, 0, none⟩, b2 s 4, by rw [readK_ok h0, readL_ok h0, h0, tabsL_len]; exact he, by rw [readL_ok h0]; exact tabs_at hs hr⟩))
  have HLD := hid (fun W => leadOf_any s hlm W)
  go_enter Try.func9, Try.ntmps9
  go_wp2_with fail
  refine (of_any s _).mono ?_
  rintro e w1 ⟨rfl, hb⟩
  have HB2 := hid (hb.alloc (.cells #[.int .i64 0, .string s] 57))
  have HA2 := hid (Has.new w1 57 #[.int .i64 0, .string s])
  obtain ⟨wb, hwb⟩ : ∃ x, w1.heap.size = x := ⟨_, rfl⟩
  rw [hwb] at HA2
  clear hb
  go_upto_region 2 with fail
  try rw [hwb]
  generalize w1.alloc (.cells #[.int .i64 0, .string s] 57) = w2 at *
  clear hwb
  have c0 : w2.cell? ⟨wb, 0, none⟩ = some (.int .i64 0) := HA2.out.cell 0
  have c1 : w2.cell? ⟨wb, 1, none⟩ = some (.string s) := HA2.out.cell 1
  go_wp2_with fail
  refine (HLD.out _).mono ?_
  rintro e w3 ⟨hb3, hq⟩
  have HB3 := hid (HB2.out.trans hb3)
  have HA3 := hid (hb3.has HA2.out)
  clear hb3 c0 c1 HB2 HA2
  rcases hq with ⟨h0, rfl⟩ | ⟨h0, rfl⟩
  case inr =>
    have HE := hid (read_head h0)
    obtain ⟨E, hE⟩ : ∃ E, leadE s = E := ⟨_, rfl⟩
    rw [hE] at HE h0 ⊢
    have H0 := hid h0
    have t0 : (E != 0) = true := by rw [bne_iff_ne]; exact h0
    clear hE h0
    go_wp2
    go_returns
    exact HBD.out _ _ E HB3.out HE.out H0.out rfl
  have HTOT := hid (read_tot h0)
  have HHO : HeadOk s := by
    unfold leadE at h0
    by_cases q1 : s.size < 12
    · rw [if_pos q1] at h0; cases h0
    rw [if_neg q1] at h0
    by_cases q2 : HeadOk s
    · exact q2
    · rw [if_neg q2] at h0; cases h0
  have hn1 := HHO.one
  have hn9 := HHO.few
  have hk4 := b4_lt s 0
  have HTA := hid (fun W => tables_any s hs (b2 s 4) hn1 hn9 W)
  obtain ⟨n, hn⟩ : ∃ n, b2 s 4 = n := ⟨_, rfl⟩
  obtain ⟨k, hk⟩ : ∃ n, b4 s 0 = n := ⟨_, rfl⟩
  rw [hn] at HTA HTOT HGD hn1 hn9
  rw [hk] at HGD hk4
  clear h0 HHO
  rw [hn, hk]
  clear hn hk
  have c0 : w3.cell? ⟨wb, 0, none⟩ = some (.int .i64 0) := HA3.out.cell 0
  have c1 : w3.cell? ⟨wb, 1, none⟩ = some (.string s) := HA3.out.cell 1
  go_wp2_with fail
  refine (HTA.out _).mono ?_
  rintro e w4 ⟨hb4, hq⟩
  have HB4 := hid (HB3.out.trans hb4)
  have HSZ := hid (show w.heap.size ≤ w3.heap.size from Below.size HB3.out)
  clear hb4 c0 c1 HB3 HA3
  rcases hq with ⟨h0, lb, rfl, hlb, hrow⟩ | ⟨h0, rfl⟩
  case inr =>
    obtain ⟨E, hE⟩ : ∃ E, totE s n = E := ⟨_, rfl⟩
    rw [hE] at HTOT h0 ⊢
    have H0 := hid h0
    have t0 : (E != 0) = true := by rw [bne_iff_ne]; exact h0
    clear hE h0
    go_wp2
    go_returns
    exact HBD.out _ _ E HB4.out HTOT.out H0.out rfl
  have HE := hid (show readE s = 0 from by rw [HTOT.out]; exact h0)
  have HLB := hid (show w.heap.size ≤ lb from Nat.le_trans HSZ.out hlb)
  have HROW := hid hrow
  clear h0 hlb hrow HTOT
  go_wp2
  go_loopw [34] (fun vi wr => ∃ j : Nat, j ≤ n ∧ vi = .int .i64 j ∧ Bw w wr ∧ RowZ 35 2 wr lb n (tabF s n)) (fun vi _ => n - (intOf vi).toNat)
  case atStart => exact ⟨0, Nat.zero_le _, rfl, HB4.out, HROW.out⟩
  case round =>
    rename World => wr
    obtain ⟨j, hj, rfl, hb, hr⟩ := hrel
    have HB := hid hb
    have HR := hid hr
    clear hb hr
    by_cases hlt : j < n
    · have hlt1 : (j : Int) < (n : Int) := by omega
      have HLT := hid hlt
      obtain ⟨t, ht⟩ : ∃ x, tagOf s j = x := ⟨_, rfl⟩
      obtain ⟨d, hd⟩ : ∃ x, datOf s j = x := ⟨_, rfl⟩
      have htz : t.size ≤ 281474976710656 := by rw [← ht]; unfold tagOf; simp; omega
      have hdz : d.size ≤ 281474976710656 := by rw [← hd]; unfold datOf; simp; omega
      have HFJ := hid (show tabF s n j = [.string t, .string d] from by unfold tabF; rw [if_pos hlt, ht, hd])
      have x0 : wr.cell? ⟨lb, j * 2, none⟩ = some (.string t) := by
        have := HR.out.cell (i := j) (j := 0) hlt (by omega)
        rw [HFJ.out] at this
        exact this
      have x1 : wr.cell? ⟨lb, j * 2 + 1, none⟩ = some (.string d) := by
        have := HR.out.cell (i := j) (j := 1) hlt (by omega)
        rw [HFJ.out] at this
        exact this
      have HX := hid (Has.new wr 35 #[.string t, .string d])
      have HBX := hid ((Bw.refl wr).alloc (.cells #[.string t, .string d] 35))
      obtain ⟨xb, hxb⟩ : ∃ x, wr.heap.size = x := ⟨_, rfl⟩
      rw [hxb] at HX
      have HXL := hid (show lb < xb from by rw [← hxb]; exact HR.out.lt)
      have HC1 := hid (fun W => lib_Clone t htz W)
      have HC2 := hid (fun W => lib_Clone d hdz W)
      clear ht hd hlt htz hdz
      go_upto_region 11 with fail
      try rw [hxb]
      generalize wr.alloc (.cells #[.string t, .string d] 35) = wx at *
      clear hxb x0 x1
      have HB0 := hid (show Bw wx wx.drew from (Bw.refl wx).drewN 1)
      have HRX := hid (HR.out.bw HBX.out)
      have HS := hid (fun W (h : Bw wx W) => (show W.cell? ⟨xb, 0, none⟩ = some (.string t) ∧ W.cell? ⟨xb, 1, none⟩ = some (.string d) from ⟨(h.has HX.out).cell 0, (h.has HX.out).cell 1⟩))
      have HSF := hid (fun W (h : Bw wx W) a b => (show ((W.setCell ⟨lb, j * 2, none⟩ a).setCell ⟨lb, j * 2 + 1, none⟩ b).cell? ⟨xb, 0, none⟩ = some (.string t) ∧ ((W.setCell ⟨lb, j * 2, none⟩ a).setCell ⟨lb, j * 2 + 1, none⟩ b).cell? ⟨xb, 1, none⟩ = some (.string d) from by
        have h2 := (((h.has HX.out).far (p := ⟨lb, j * 2, none⟩) (show xb ≠ lb by have := HXL.out; omega) a).far (p := ⟨lb, j * 2 + 1, none⟩) (show xb ≠ lb by have := HXL.out; omega) b)
        exact ⟨h2.cell 0, h2.cell 1⟩))
      have HZ := hid (fun W (h : Bw wx W) => (show W.cell? ⟨lb, j * 2, none⟩ = some (.string t) ∧ W.cell? ⟨lb, j * 2 + 1, none⟩ = some (.string d) ∧ W.frozen? ⟨lb, j * 2, none⟩ = false ∧ W.frozen? ⟨lb, j * 2 + 1, none⟩ = false from by
        have q0 := (HRX.out.bw h).cell (i := j) (j := 0) HLT.out (by omega)
        have q1 := (HRX.out.bw h).cell (i := j) (j := 1) HLT.out (by omega)
        rw [HFJ.out] at q0 q1
        exact ⟨q0, q1, (HRX.out.bw h).frozen _, (HRX.out.bw h).frozen _⟩))
      go_region_held3 (fun W => W.cell? ⟨xb, 0, none⟩ = some (.string t) ∧ W.cell? ⟨xb, 1, none⟩ = some (.string d))
        (first | (with_reducible exact HS.out _ HB0.out) | (with_reducible exact HS.out _ HC3.out) | (with_reducible exact HS.out _ HC4.out) | exact HSF.out _ HC4.out _ _)
        (first
          | (go_at_call 26; (with_reducible refine (HC2.out _).mono ?_); rintro e w6 ⟨rfl, hb6⟩; have HC4 := hid (HC3.out.trans hb6); obtain ⟨y0, y1, g0, g1⟩ := HZ.out _ HC4.out; clear hb6)
          | (go_at_call 26; (with_reducible refine (HC1.out _).mono ?_); rintro e w6 ⟨rfl, hb6⟩; have HC3 := hid (HB0.out.trans hb6); clear hb6))
      have HRN := hid (show RowZ 35 2 ((w6.setCell ⟨lb, j * 2, none⟩ (.string t)).setCell ⟨lb, j * 2 + 1, none⟩ (.string d)) lb n (tabF s n) from (set2 (HRX.out.bw HC4.out) HLT.out HFJ.out _ _).congr fun i hi => by
        by_cases e : i = j
        · subst e; rw [if_pos rfl, HFJ.out]
        · rw [if_neg e])
      have HBN := hid (show Bw w ((w6.setCell ⟨lb, j * 2, none⟩ (.string t)).setCell ⟨lb, j * 2 + 1, none⟩ (.string d)) from Below.setCell (p := ⟨lb, j * 2 + 1, none⟩) (Below.setCell (p := ⟨lb, j * 2, none⟩) ((HB.out.trans HBX.out).trans HC4.out) HLB.out _) HLB.out _)
      go_wp2
      exact ⟨⟨j + 1, by have := HLT.out; omega, by go_num, HBN.out, HRN.out⟩, by have := HLT.out; simp [intOf]; omega⟩
    · obtain rfl : j = n := by omega
      go_wp2
      go_returns
      exact HGD.out _ _ lb HB.out HE.out rfl HR.out
end Go.Proofs.Ytciaebhkemdilab
