import Derived.Test.YtgchopfagobleaaDoorZlbX
import Derived.Test.YtgchopfagobleaaDoorInfZ
import Derived.Deep.RegionWith
import Derived.Test.YtgchopfagobleaaDoorDocC
/- What a zlib text says, as a relation of a text, a limit and an answer: no program in it. -/
namespace Go.Proofs.YtgchopfagobleaaDoor
open Go.RowKit
set_option linter.unusedVariables false
/-- What is told ahead of the deflated bytes. -/
def early (s : ByteArray) (L : Int) : Option Int :=
  if L < 0 ∨ 1073741824 < L then some 1 else if s.size < 2 then some 2 else if headB (numAt s 0 2 true) = true then none else some 3
/-- What is told behind them. -/
def late (s b : ByteArray) (m e : Int) : ByteArray × Int × Int :=
  if e ≠ 0 then (⟨#[]⟩, 0, e) else if (s.size : Int) - 2 - m < 4 then (⟨#[]⟩, 0, 2) else if numAt s (2 + m).toNat 4 true = adlN 1 b then (b, 6 + m, 0) else (⟨#[]⟩, 0, 4)
/-- What Unzip tells. -/
def UnzR (s : ByteArray) (L : Int) (a : ByteArray) (n er : Int) : Prop :=
  (early s L = some er ∧ a = ⟨#[]⟩ ∧ n = 0) ∨ (early s L = none ∧ ∃ b m e, InfR (s.extract 2 s.size) L b m e ∧ late s b m e = (a, n, er))
/-- What Unzip leaves. -/
def UnzPost (s : ByteArray) (L : Int) (w : World) (e : Ending) (w' : World) : Prop :=
  ∃ a n er, e = .returned (.tuple #[.string a, .int .i64 n, .int .i64 er]) ∧ UnzR s L a n er ∧ Bw w w'
theorem UnzR.unique {s : ByteArray} {L : Int} {a b : ByteArray} {n m er fr : Int} (h : UnzR s L a n er) (k : UnzR s L b m fr) : a = b ∧ n = m ∧ er = fr := by
  rcases h with ⟨h0, rfl, rfl⟩ | ⟨h0, b1, m1, e1, h1, h2⟩ <;> rcases k with ⟨k0, rfl, rfl⟩ | ⟨k0, b2, m2, e2, k1, k2⟩
  · rw [h0] at k0; injection k0 with k0; exact ⟨rfl, rfl, k0⟩
  · rw [h0] at k0; cases k0
  · rw [h0] at k0; cases k0
  · obtain ⟨rfl, rfl, rfl⟩ := h1.unique k1
    rw [h2] at k2
    injection k2 with k2 k3
    injection k3 with k3 k4
    exact ⟨k2, k3, k4⟩
theorem early_lim {s : ByteArray} {L : Int} (h : L < 0 ∨ 1073741824 < L) : early s L = some 1 := if_pos h
theorem early_cut {s : ByteArray} {L : Int} (h : ¬ (L < 0 ∨ 1073741824 < L)) (h2 : s.size < 2) : early s L = some 2 := by rw [early, if_neg h, if_pos h2]
theorem early_form {s : ByteArray} {L : Int} (h : ¬ (L < 0 ∨ 1073741824 < L)) (h2 : ¬ s.size < 2) (h3 : headB (numAt s 0 2 true) = false) : early s L = some 3 := by rw [early, if_neg h, if_neg h2, if_neg (by rw [h3]; decide)]
theorem early_none {s : ByteArray} {L : Int} (h : ¬ (L < 0 ∨ 1073741824 < L)) (h2 : ¬ s.size < 2) (h3 : headB (numAt s 0 2 true) = true) : early s L = none := by rw [early, if_neg h, if_neg h2, if_pos h3]
theorem late_bad {s b : ByteArray} {m e : Int} (h : e ≠ 0) : late s b m e = (⟨#[]⟩, 0, e) := if_pos h
theorem late_cut {s b : ByteArray} {m : Int} (h : (s.size : Int) - 2 - m < 4) : late s b m 0 = (⟨#[]⟩, 0, 2) := by rw [late, if_neg (by decide), if_pos h]
theorem late_ok {s b : ByteArray} {m : Int} (h : ¬ (s.size : Int) - 2 - m < 4) (k : numAt s (2 + m).toNat 4 true = adlN 1 b) : late s b m 0 = (b, 6 + m, 0) := by rw [late, if_neg (by decide), if_neg h, if_pos k]
theorem late_sum {s b : ByteArray} {m : Int} (h : ¬ (s.size : Int) - 2 - m < 4) (k : ¬ numAt s (2 + m).toNat 4 true = adlN 1 b) : late s b m 0 = (⟨#[]⟩, 0, 4) := by rw [late, if_neg (by decide), if_neg h, if_neg k]
theorem infR_size {s : ByteArray} {L : Int} {a : ByteArray} {n : Int} (h : InfR s L a n 0) : a.size ≤ 1073741824 := by
  rcases h with ⟨h0, rfl, rfl, h⟩ | ⟨L1, e1, hL, ⟨k1, o1, ⟨i, hi⟩, rfl, rfl, _⟩ | ⟨_, rfl, rfl, hne⟩⟩
  · cases h
  · rcases itr_lim (s := s) (Nat.le_refl L1) i start k1 o1 (Nat.zero_le _) hi with ⟨h1, _⟩ | ⟨_, h2⟩
    · exact Nat.le_trans h1 hL
    · rw [hi] at h2; cases h2
  · exact absurd rfl hne
theorem cut2_size (s : ByteArray) : (s.extract 2 s.size).size = s.size - 2 := by simp
theorem head_num (s : ByteArray) (a b : Nat) (ha : bt s 0 = a) (hb : bt s 1 = b) : a < 256 ∧ b < 256 ∧ (headB (numAt s 0 2 true) = true ↔ (a % 16 = 8 ∧ a / 16 ≤ 7 ∧ (256 * a + b) % 31 = 0 ∧ b / 32 % 2 = 0)) := by
  have h1 := bt_lt s 0
  have h2 := bt_lt s 1
  have e := num2 s 0
  rw [Nat.zero_add, ha, hb] at e
  refine ⟨by omega, by omega, ?_⟩
  have e1 : (a * 256 + b) / 256 = a := by omega
  have e2 : (a * 256 + b) / 4096 = a / 16 := by omega
  have e3 : (a * 256 + b) / 32 % 2 = b / 32 % 2 := by omega
  rw [headB, decide_eq_true_eq, e, e1, e2, e3, Nat.mul_comm a 256]
end Go.Proofs.YtgchopfagobleaaDoor
/- What Unzip tells, for every text and every limit (contract of the function; the listed tables hold what the program's text lays). -/
namespace Go.Proofs.YtgchopfagobleaaDoor
open Go.RowKit Go.Conc
set_option linter.unusedVariables false
theorem uint2_cut (s : ByteArray) (hs : s.size < 2) (w : World) :
    Calls Tryd.prog 17 #[.agg #[.int .i64 0, .string s], .int .i64 0, .int .i64 2, .bool true] w fun e w' => e = .returned (.tuple #[.int .u64 0, .int .i64 2]) ∧ Bw w w' := by
  have h := uint_any 0 (by omega) (by omega) s (by unfold lim; omega) 0 2 true w
  have e : uintE s.size 0 2 = 2 := by rw [uintE_sub (by decide), subE_cut (by omega) (by omega)]
  rw [uintV_bad (by rw [e]; decide), e] at h
  exact h
theorem uint2_ok (s : ByteArray) (hs : s.size ≤ lim) (h2 : 2 ≤ s.size) (w : World) :
    Calls Tryd.prog 17 #[.agg #[.int .i64 0, .string s], .int .i64 0, .int .i64 2, .bool true] w fun e w' => e = .returned (.tuple #[.int .u64 (numAt s 0 2 true : Nat), .int .i64 0]) ∧ Bw w w' := by
  have h := uint_any 0 (by omega) (by omega) s hs 0 2 true w
  have e : uintE s.size 0 2 = 0 := by rw [uintE_sub (by decide), subE_ok (by omega) (by omega)]
  rw [uintV_ok e, e] at h
  exact h
theorem uint4_cut (s : ByteArray) (hs : s.size ≤ lim) (p : Int) (h0 : 0 ≤ p) (hp : (s.size : Int) - p < 4) (w : World) :
    Calls Tryd.prog 17 #[.agg #[.int .i64 0, .string s], .int .i64 p, .int .i64 4, .bool true] w fun e w' => e = .returned (.tuple #[.int .u64 0, .int .i64 2]) ∧ Bw w w' := by
  have h := uint_any 0 (by omega) (by omega) s hs p 4 true w
  have e : uintE s.size p 4 = 2 := by rw [uintE_sub (by decide), subE_cut (by omega) (by omega)]
  rw [uintV_bad (by rw [e]; decide), e] at h
  exact h
theorem uint4_ok (s : ByteArray) (hs : s.size ≤ lim) (p : Int) (h0 : 0 ≤ p) (hp : ¬ (s.size : Int) - p < 4) (w : World) :
    Calls Tryd.prog 17 #[.agg #[.int .i64 0, .string s], .int .i64 p, .int .i64 4, .bool true] w fun e w' => e = .returned (.tuple #[.int .u64 (numAt s p.toNat 4 true : Nat), .int .i64 0]) ∧ Bw w w' := by
  have h := uint_any 0 (by omega) (by omega) s hs p 4 true w
  have e : uintE s.size p 4 = 0 := by rw [uintE_sub (by decide), subE_ok (by omega) (by omega)]
  rw [uintV_ok e, e] at h
  exact h
set_option maxRecDepth 100000 in
set_option maxHeartbeats 4000000 in
theorem unzip_out (s : ByteArray) (L : Int) (h : L < 0 ∨ 1073741824 < L) (w : World) :
    Calls Tryd.prog 10 #[.string s, .int .i64 L] w (UnzPost s L w) := by
  have HP := hid (show UnzPost s L w (.returned (.tuple #[.string ⟨#[]⟩, .int .i64 0, .int .i64 1])) w from ⟨_, _, _, rfl, .inl ⟨early_lim h, rfl, rfl⟩, Bw.refl w⟩)
  by_cases h0 : L < 0
  · clear h
    go_enter Tryd.func10, Tryd.ntmps10
    go_wp2
    go_returns
    exact HP.out
  · have h1 : 1073741824 < L := by omega
    have h2 : 0 ≤ L := by omega
    clear h
    go_enter Tryd.func10, Tryd.ntmps10
    go_wp2
    go_returns
    exact HP.out
set_option maxRecDepth 100000 in
set_option maxHeartbeats 4000000 in
theorem unzip_cut (s : ByteArray) (hs : s.size < 2) (L : Int) (h0 : 0 ≤ L) (h1 : L ≤ 1073741824) (w : World) :
    Calls Tryd.prog 10 #[.string s, .int .i64 L] w (UnzPost s L w) := by
  have HE := hid (early_cut (s := s) (L := L) (by omega) hs)
  have HS := hid hs
  have t0 : decide (L < 0) = false := decide_eq_false (by omega)
  clear hs
  go_enter Tryd.func10, Tryd.ntmps10
  go_wp2_with fail
  refine (of_any s w).mono ?_
  rintro e w1 ⟨rfl, hb1⟩
  have HB1 := hid hb1
  clear hb1
  go_wp2_with fail
  refine (uint2_cut s HS.out _).mono ?_
  rintro e w3 ⟨rfl, hb3⟩
  have HB3 := hid (show Bw w w3 from Below.trans (HB1.out.alloc (.cells #[.int .i64 0, .string s] 49)) (Below.mono hb3 (by have := HB1.out.size; simp; omega)))
  clear hb3
  go_wp2
  go_returns
  exact ⟨_, _, _, rfl, .inl ⟨HE.out, rfl, rfl⟩, HB3.out⟩
set_option maxRecDepth 100000 in
set_option maxHeartbeats 4000000 in
theorem unzip_form (s : ByteArray) (hs : s.size ≤ lim) (h2 : 2 ≤ s.size) (hh : headB (numAt s 0 2 true) = false) (L : Int) (h0 : 0 ≤ L) (h1 : L ≤ 1073741824) (w : World) :
    Calls Tryd.prog 10 #[.string s, .int .i64 L] w (UnzPost s L w) := by
  have HE := hid (early_form (s := s) (L := L) (by omega) (by omega) hh)
  have HS := hid hs
  have H2 := hid h2
  have HH := hid hh
  have HN := hid (num2_lt s 0)
  obtain ⟨x, hx⟩ : ∃ x, numAt s 0 2 true = x := ⟨_, rfl⟩
  have HX := hid hx
  clear hs h2 hh hx
  go_enter Tryd.func10, Tryd.ntmps10
  go_wp2_with fail
  refine (of_any s w).mono ?_
  rintro e w1 ⟨rfl, hb1⟩
  have HB1 := hid hb1
  clear hb1
  go_wp2_with fail
  refine (uint2_ok s HS.out H2.out _).mono ?_
  rintro e w3 ⟨rfl, hb3⟩
  have HB3 := hid (show Bw w w3 from Below.trans (HB1.out.alloc (.cells #[.int .i64 0, .string s] 49)) (Below.mono hb3 (by have := HB1.out.size; simp; omega)))
  clear hb3
  rw [HX.out]
  go_wp2_with fail
  refine (isHeader_any x (by rw [← HX.out]; exact HN.out) _).mono ?_
  rintro e w4 ⟨rfl, rfl⟩
  rw [← HX.out, HH.out]
  go_wp2
  go_returns
  exact ⟨_, _, _, rfl, .inl ⟨HE.out, rfl, rfl⟩, HB3.out⟩
set_option maxRecDepth 100000 in
set_option maxHeartbeats 8000000 in
theorem unzip_in (s : ByteArray) (hs : s.size ≤ 140737488351232) (h2 : 2 ≤ s.size) (hh : headB (numAt s 0 2 true) = true) (L : Int) (h0 : 0 ≤ L) (h1 : L ≤ 1073741824) (w : World) (ht : Tabs w.heap.size w) :
    Calls Tryd.prog 10 #[.string s, .int .i64 L] w (UnzPost s L w) := by
  have HE := hid (early_none (s := s) (L := L) (by omega) (by omega) hh)
  have HS := hid (show s.size ≤ lim by unfold lim; omega)
  have HC := hid (cut2_size s)
  have H2 := hid h2
  have HH := hid hh
  have HT := hid ht
  have HN := hid (num2_lt s 0)
  obtain ⟨x, hx⟩ : ∃ x, numAt s 0 2 true = x := ⟨_, rfl⟩
  have HX := hid hx
  clear hh hx ht
  go_enter Tryd.func10, Tryd.ntmps10
  go_wp2_with fail
  refine (of_any s w).mono ?_
  rintro e w1 ⟨rfl, hb1⟩
  have HB1 := hid hb1
  clear hb1
  go_wp2_with fail
  refine (uint2_ok s HS.out H2.out _).mono ?_
  rintro e w3 ⟨rfl, hb3⟩
  have HW := hid ((Has.new w1 49 #[.int .i64 0, .string s]).below hb3 (by simp))
  have HB3 := hid (show Bw w w3 from Below.trans (HB1.out.alloc (.cells #[.int .i64 0, .string s] 49)) (Below.mono hb3 (by have := HB1.out.size; simp; omega)))
  clear hb3
  rw [HX.out]
  go_wp2_with fail
  refine (isHeader_any x (by rw [← HX.out]; exact HN.out) _).mono ?_
  rintro e w4 ⟨rfl, rfl⟩
  rw [← HX.out, HH.out]
  go_wp2_with fail
  refine (inflate_any (s.extract 2 s.size) (by rw [HC.out]; omega) L w3 (HT.out.bw HB3.out)).mono ?_
  rintro e w5 ⟨b, m, e1, rfl, hr, hb5⟩
  have HR := hid hr
  have HB5 := hid (HB3.out.trans hb5)
  have HW5 := hid (hb5.has HW.out)
  clear hb5
  by_cases he : e1 = 0
  · subst he
    have hm := infR_le hr
    rw [HC.out] at hm
    have hbs := infR_size hr
    clear hr
    obtain ⟨hm0, hm1⟩ := hm
    have hm2 : m ≤ 140737488351232 := by omega
    have HM := hid hm1
    have HBS := hid hbs
    clear hm1 hbs
    have c0 := HW5.out.cell 0
    have c1 := HW5.out.cell 1
    by_cases hc : (s.size : Int) - (2 + m) < 4
    · have HQ := hid hc
      clear hc
      go_wp2_with fail
      refine (uint4_cut s HS.out (2 + m) (by omega) HQ.out _).mono ?_
      rintro e w6 ⟨rfl, hb6⟩
      have HB6 := hid (HB5.out.trans hb6)
      clear hb6
      go_wp2
      go_returns
      exact ⟨_, _, _, rfl, .inr ⟨HE.out, _, _, _, HR.out, late_cut (by have := HQ.out; omega)⟩, HB6.out⟩
    · have HQ := hid hc
      clear hc
      go_wp2_with fail
      refine (uint4_ok s HS.out (2 + m) (by omega) (by have := HQ.out; omega) _).mono ?_
      rintro e w6 ⟨rfl, hb6⟩
      have HB6 := hid (HB5.out.trans hb6)
      clear hb6
      have hy := num4_lt s (2 + m).toNat
      have HY := hid hy
      obtain ⟨y, hyy⟩ : ∃ y, numAt s (2 + m).toNat 4 true = y := ⟨_, rfl⟩
      have HYY := hid hyy
      rw [hyy] at hy ⊢
      clear hyy
      go_wp2_with fail
      refine (adler_any b (by have := HBS.out; unfold lim; omega) _).mono ?_
      rintro e w7 ⟨rfl, rfl⟩
      have hz := adlN_lt 1 b
      obtain ⟨z, hzz⟩ : ∃ z, adlN 1 b = z := ⟨_, rfl⟩
      have HZZ := hid hzz
      rw [hzz] at hz ⊢
      clear hzz
      by_cases hq : y = z
      · subst hq
        go_wp2
        go_returns
        exact ⟨_, _, _, rfl, .inr ⟨HE.out, _, _, _, HR.out, by rw [late_ok (by have := HQ.out; omega) (by rw [HYY.out, HZZ.out])]; simp; omega⟩, HB6.out⟩
      · have t1 : (((y : Nat) : Int) != ((z : Nat) : Int)) = true := by simp; omega
        have HQQ := hid hq
        clear hq
        go_wp2
        go_returns
        exact ⟨_, _, _, rfl, .inr ⟨HE.out, _, _, _, HR.out, late_sum (by have := HQ.out; omega) (by rw [HYY.out, HZZ.out]; exact HQQ.out)⟩, HB6.out⟩
  · have t0 : (e1 != 0) = true := by simpa using he
    have HNE := hid he
    clear hr he
    go_wp2
    go_returns
    exact ⟨_, _, _, rfl, .inr ⟨HE.out, _, _, _, HR.out, late_bad HNE.out⟩, HB5.out⟩
theorem unzip_any (s : ByteArray) (hs : s.size ≤ 140737488351232) (L : Int) (w : World) (ht : Tabs w.heap.size w) :
    Calls Tryd.prog 10 #[.string s, .int .i64 L] w (UnzPost s L w) := by
  by_cases h : L < 0 ∨ 1073741824 < L
  · exact unzip_out s L h w
  · by_cases h2 : s.size < 2
    · exact unzip_cut s h2 L (by omega) (by omega) w
    · cases hh : headB (numAt s 0 2 true) with
      | false => exact unzip_form s (by unfold lim; omega) (by omega) hh L (by omega) (by omega) w
      | true => exact unzip_in s hs (by omega) hh L (by omega) (by omega) w ht
end Go.Proofs.YtgchopfagobleaaDoor
/- What Unzip tells, by the document (contract of the function). -/
namespace Go.Proofs.YtgchopfagobleaaDoor
open Go.RowKit Go.Conc
set_option linter.unusedVariables false
set_option maxRecDepth 100000 in
set_option maxHeartbeats 4000000 in
theorem runzip_out (s : ByteArray) (L : Int) (h : L < 0 ∨ 1073741824 < L) (w : World) :
    Calls Tryd.prog 11 #[.string s, .int .i64 L] w (UnzPost s L w) := by
  have HP := hid (show UnzPost s L w (.returned (.tuple #[.string ⟨#[]⟩, .int .i64 0, .int .i64 1])) w from ⟨_, _, _, rfl, .inl ⟨early_lim h, rfl, rfl⟩, Bw.refl w⟩)
  by_cases h0 : L < 0
  · clear h
    go_enter Tryd.func11, Tryd.ntmps11
    go_wp2
    go_returns
    exact HP.out
  · have h1 : 1073741824 < L := by omega
    have h2 : 0 ≤ L := by omega
    clear h
    go_enter Tryd.func11, Tryd.ntmps11
    go_wp2
    go_returns
    exact HP.out
set_option maxRecDepth 100000 in
set_option maxHeartbeats 4000000 in
theorem runzip_cut (s : ByteArray) (hs : s.size < 2) (L : Int) (h0 : 0 ≤ L) (h1 : L ≤ 1073741824) (w : World) :
    Calls Tryd.prog 11 #[.string s, .int .i64 L] w (UnzPost s L w) := by
  have HE := hid (early_cut (s := s) (L := L) (by omega) hs)
  have t0 : decide (L < 0) = false := decide_eq_false (by omega)
  go_enter Tryd.func11, Tryd.ntmps11
  go_wp2
  go_returns
  exact ⟨_, _, _, rfl, .inl ⟨HE.out, rfl, rfl⟩, Bw.refl w⟩
theorem bytes_ne {X Z : ByteArray} (h : (!(X.toList == Z.toList)) = true) : X ≠ Z := by rintro rfl; simp at h
theorem bytes_eq {X Z : ByteArray} (h : (!(X.toList == Z.toList)) = false) : X = Z := by
  have h2 : X.toList = Z.toList := by simpa using h
  rw [ByteArray.toList_eq, ByteArray.toList_eq] at h2
  exact ByteArray.ext (Array.toList_inj.1 h2)
set_option maxRecDepth 100000 in
set_option maxHeartbeats 4000000 in
theorem runzip_form (s : ByteArray) (hs : s.size ≤ lim) (h2 : 2 ≤ s.size) (hh : headB (numAt s 0 2 true) = false) (L : Int) (h0 : 0 ≤ L) (h1 : L ≤ 1073741824) (w : World) :
    Calls Tryd.prog 11 #[.string s, .int .i64 L] w (UnzPost s L w) := by
  have HE := hid (early_form (s := s) (L := L) (by omega) (by omega) hh)
  have hs2 : s.size ≤ 281474976710656 := hs
  have i0 : 0 < s.size := by omega
  have i1 : 1 < s.size := by omega
  obtain ⟨a, ha⟩ : ∃ a, bt s 0 = a := ⟨_, rfl⟩
  obtain ⟨b, hb⟩ : ∃ b, bt s 1 = b := ⟨_, rfl⟩
  have HQ := hid (head_num s a b ha hb)
  have HA := hid ((bt_eq s 0 i0).symm.trans ha)
  have HB := hid ((bt_eq s 1 i1).symm.trans hb)
  have HH := hid hh
  have k0 : (s[0]'i0).toNat < 256 := UInt8.toNat_lt _
  have k1 : (s[1]'i1).toNat < 256 := UInt8.toNat_lt _
  clear ha hb hh hs
  go_enter Tryd.func11, Tryd.ntmps11
  go_wp2
  all_goals first
    | (go_returns; exact ⟨_, _, _, rfl, .inl ⟨HE.out, rfl, rfl⟩, Bw.refl w⟩)
    | (exfalso; have q := mt HQ.out.2.2.2 (by rw [HH.out]; decide); have p := HA.out; have p2 := HB.out; clear HE HQ HA HB; subst p p2; simp only [beq_eq_false_iff_ne, ne_eq] at *; omega)
set_option maxRecDepth 100000 in
set_option maxHeartbeats 8000000 in
theorem runzip_in (s : ByteArray) (hs : s.size ≤ 140737488351232) (h2 : 2 ≤ s.size) (hh : headB (numAt s 0 2 true) = true) (L : Int) (h0 : 0 ≤ L) (h1 : L ≤ 1073741824) (w : World) :
    Calls Tryd.prog 11 #[.string s, .int .i64 L] w (UnzPost s L w) := by
  have HE := hid (early_none (s := s) (L := L) (by omega) (by omega) hh)
  have HC := hid (cut2_size s)
  have H2 := hid h2
  have i0 : 0 < s.size := by omega
  have i1 : 1 < s.size := by omega
  obtain ⟨a0, ha⟩ : ∃ a, bt s 0 = a := ⟨_, rfl⟩
  obtain ⟨b0, hb⟩ : ∃ b, bt s 1 = b := ⟨_, rfl⟩
  have hq := (head_num s a0 b0 ha hb).2.2.1 hh
  rw [← ha, ← hb, bt_eq s 0 i0, bt_eq s 1 i1] at hq
  obtain ⟨q1, q2, q3, q4⟩ := hq
  have k0 : (s[0]'i0).toNat < 256 := UInt8.toNat_lt _
  have k1 : (s[1]'i1).toNat < 256 := UInt8.toNat_lt _
  have G1 := hid (show ((s[0]'i0).toNat : Int) % 16 = 8 by omega)
  have G2 := hid (show ((s[0]'i0).toNat : Int) / 16 ≤ 7 by omega)
  have G3 := hid (show ((256 : Int) * ((s[0]'i0).toNat : Int) + ((s[1]'i1).toNat : Int)) % 31 = 0 by omega)
  have G4 := hid (show ((s[1]'i1).toNat : Int) / 32 % 2 = 0 by omega)
  clear ha hb hh q1 q2 q3 q4
  go_enter Tryd.func11, Tryd.ntmps11
  go_wp2_with fail
  all_goals first | (exfalso; have := G2.out; have := G3.out; have := G1.out; have := G4.out; simp only [beq_eq_false_iff_ne, ne_eq, beq_iff_eq] at *; omega) | skip
  refine (rinflate_any (s.extract 2 s.size) (by rw [HC.out]; omega) L w).mono ?_
  rintro e w5 ⟨b, m, e1, rfl, hr, hb5⟩
  have HR := hid hr
  have HB5 := hid hb5
  clear hb5 k0 k1
  by_cases he : e1 = 0
  · subst he
    have hm := infR_le hr
    rw [HC.out] at hm
    have hbs := infR_size hr
    clear hr
    obtain ⟨hm0, hm1⟩ := hm
    have hm2 : m ≤ 140737488351232 := by omega
    obtain ⟨mn, rfl⟩ := Int.eq_ofNat_of_zero_le hm0
    have HM := hid hm1
    have HBS := hid hbs
    clear hm1 hbs
    by_cases hc : (s.size : Int) - 2 - (mn : Int) < 4
    · go_wp2
      go_returns
      exact ⟨_, _, _, rfl, .inr ⟨HE.out, _, _, _, HR.out, late_cut hc⟩, HB5.out⟩
    · have HQ := hid hc
      have hc2 : 4 ≤ (s.size : Int) - 2 - (mn : Int) := by omega
      clear hc
      have HZ := hid (adlN_lt 1 b)
      have HA := hid (fun w => refadler_any b (by have := HBS.out; unfold lim; omega) w)
      have h6 : (6 : Int) + (mn : Int) ≤ (s.size : Int) := by omega
      have h5 : (0 : Int) ≤ 2 + (mn : Int) := by omega
      have hw2 : IntKind.i64.wrap (2 + (mn : Int)) = 2 + (mn : Int) := IntWalk.i64_in _ (by omega)
      have hw6 : IntKind.i64.wrap (6 + (mn : Int)) = 6 + (mn : Int) := IntWalk.i64_in _ (by omega)
      have h8 : (0 : Int) ≤ 6 + (mn : Int) := by omega
      have h7 : (2 : Int) + (mn : Int) ≤ 6 + (mn : Int) := by omega
      obtain ⟨z, hzz⟩ : ∃ z, adlN 1 b = z := ⟨_, rfl⟩
      have HZZ := hid hzz
      rw [hzz] at HZ HA
      clear hzz
      obtain ⟨zs, hzs⟩ : ∃ zs, sumS z = zs := ⟨_, rfl⟩
      have HS := hid (fun w => refsum_any z HZ.out w)
      rw [hzs] at HS
      have HZS := hid hzs
      clear hzs
      go_wp2_with fail
      go_region_with (first | (go_at_call 21; refine (HA.out _).mono ?_; rintro e w6 ⟨rfl, rfl⟩) | (go_at_call 20; refine (HS.out _).mono ?_; rintro e w7 ⟨rfl, hb7⟩; have HB7 := hid hb7; clear hb7))
      have e2 : (2 + (mn : Int)).toNat = 2 + mn := by omega
      have e6 : (6 + (mn : Int)).toNat = 2 + mn + 4 := by omega
      all_goals go_wp2
      all_goals go_returns
      · have hne : (!((s.extract (2 + (mn : Int)).toNat (6 + (mn : Int)).toNat).toList == zs.toList)) = true := by assumption
        refine ⟨_, _, _, rfl, .inr ⟨HE.out, _, _, _, HR.out, late_sum (by have := HQ.out; omega) fun hh => ?_⟩, (HB5.out.drewN 1).trans HB7.out⟩
        rw [HZZ.out, e2] at hh
        exact bytes_ne hne (by rw [e2, e6, ← HZS.out]; exact (sum_eq s (2 + mn) z (by omega) HZ.out).2 hh)
      · have heq : (!((s.extract (2 + (mn : Int)).toNat (6 + (mn : Int)).toNat).toList == zs.toList)) = false := by assumption
        refine ⟨_, _, _, rfl, .inr ⟨HE.out, _, _, _, HR.out, late_ok (by have := HQ.out; omega) ?_⟩, (HB5.out.drewN 1).trans HB7.out⟩
        have hh := bytes_eq heq
        rw [e2, e6, ← HZS.out] at hh
        rw [e2, HZZ.out]
        exact (sum_eq s (2 + mn) z (by omega) HZ.out).1 hh
  · have t0 : (e1 != 0) = true := by simpa using he
    have HNE := hid he
    clear hr he
    go_wp2
    go_returns
    exact ⟨_, _, _, rfl, .inr ⟨HE.out, _, _, _, HR.out, late_bad HNE.out⟩, HB5.out⟩
theorem runzip_any (s : ByteArray) (hs : s.size ≤ 140737488351232) (L : Int) (w : World) :
    Calls Tryd.prog 11 #[.string s, .int .i64 L] w (UnzPost s L w) := by
  by_cases h : L < 0 ∨ 1073741824 < L
  · exact runzip_out s L h w
  · by_cases h2 : s.size < 2
    · exact runzip_cut s h2 L (by omega) (by omega) w
    · cases hh : headB (numAt s 0 2 true) with
      | false => exact runzip_form s (by unfold lim; omega) (by omega) hh L (by omega) (by omega) w
      | true => exact runzip_in s hs (by omega) hh L (by omega) (by omega) w
end Go.Proofs.YtgchopfagobleaaDoor
/- Unzip: some answers, and live (contract of the function); the plain side of ZlibHeads. -/
namespace Go.Proofs.YtgchopfagobleaaDoor
open Go.RowKit Go.Conc
set_option linter.unusedVariables false
theorem zi1 : InfR ⟨#[3, 0, 0, 0, 0, 1, 122]⟩ 0 ⟨#[]⟩ 2 0 := .inr ⟨0, rfl, by decide, .inl ⟨10, [], Leads.of_itr 2 (by kernel_rfl), rfl, rfl, rfl⟩⟩
theorem zi2 : InfR ⟨#[3, 0, 0, 0, 0, 2]⟩ 0 ⟨#[]⟩ 2 0 := .inr ⟨0, rfl, by decide, .inl ⟨10, [], Leads.of_itr 2 (by kernel_rfl), rfl, rfl, rfl⟩⟩
theorem zi4 : InfR ⟨#[3, 0, 0, 0, 0, 1]⟩ 0 ⟨#[]⟩ 2 0 := .inr ⟨0, rfl, by decide, .inl ⟨10, [], Leads.of_itr 2 (by kernel_rfl), rfl, rfl, rfl⟩⟩
theorem zv1 : UnzR ⟨#[120, 156, 3, 0, 0, 0, 0, 1, 122]⟩ 0 ⟨#[]⟩ 8 0 := .inr ⟨by decide +kernel, ⟨#[]⟩, 2, 0, by
  rw [show (⟨#[120, 156, 3, 0, 0, 0, 0, 1, 122]⟩ : ByteArray).extract 2 (⟨#[120, 156, 3, 0, 0, 0, 0, 1, 122]⟩ : ByteArray).size = ⟨#[3, 0, 0, 0, 0, 1, 122]⟩ by decide +kernel]; exact zi1, by decide +kernel⟩
theorem zv2 : UnzR ⟨#[120, 156, 3, 0, 0, 0, 0, 2]⟩ 0 ⟨#[]⟩ 0 4 := .inr ⟨by decide +kernel, ⟨#[]⟩, 2, 0, by
  rw [show (⟨#[120, 156, 3, 0, 0, 0, 0, 2]⟩ : ByteArray).extract 2 (⟨#[120, 156, 3, 0, 0, 0, 0, 2]⟩ : ByteArray).size = ⟨#[3, 0, 0, 0, 0, 2]⟩ by decide +kernel]; exact zi2, by decide +kernel⟩
theorem zv3 : UnzR ⟨#[120, 157]⟩ 0 ⟨#[]⟩ 0 3 := .inl ⟨by decide +kernel, rfl, rfl⟩
theorem unzip_is (s : ByteArray) (hs : s.size ≤ 140737488351232) (L : Int) {a : ByteArray} {n er : Int} (hk : UnzR s L a n er) (w : World) (ht : Tabs w.heap.size w) :
    Calls Tryd.prog 10 #[.string s, .int .i64 L] w fun e w' => e = .returned (.tuple #[.string a, .int .i64 n, .int .i64 er]) ∧ Bw w w' := by
  refine (unzip_any s hs L w ht).mono ?_
  rintro e w' ⟨a', n', er', rfl, hr, hb⟩
  obtain ⟨rfl, rfl, rfl⟩ := hr.unique hk
  exact ⟨rfl, hb⟩
set_option maxRecDepth 100000 in
set_option maxHeartbeats 4000000 in
theorem zlive_any (w : World) (ht : Tabs w.heap.size w) :
    Calls Tryd.prog 9 #[] w fun e w' => e = .returned (.bool true) ∧ Bw w w' := by
  have HT := hid ht
  clear ht
  go_enter Tryd.func9, Tryd.ntmps9
  go_wp2_with fail
  refine (unzip_is _ (by decide) 0 zv1 w HT.out).mono ?_
  rintro e w1 ⟨rfl, hb1⟩
  have HB1 := hid hb1
  clear hb1
  go_wp2_with fail
  refine (unzip_is _ (by decide) 0 zv2 w1 (HT.out.bw HB1.out)).mono ?_
  rintro e w2 ⟨rfl, hb2⟩
  have HB2 := hid (HB1.out.trans hb2)
  clear hb2
  go_wp2_with fail
  refine (unzip_is _ (by decide) 0 zv3 w2 (HT.out.bw HB2.out)).mono ?_
  rintro e w3 ⟨rfl, hb3⟩
  have HB3 := hid (HB2.out.trans hb3)
  clear hb3
  go_wp2
  go_returns
  exact ⟨rfl, HB3.out⟩
/-! The plain side of ZlibHeads. -/
/-- A head of two bytes, ahead of a block of nothing. -/
def headS (a b : Nat) : ByteArray := ⟨#[UInt8.ofNat a, UInt8.ofNat b]⟩ ++ ⟨#[3, 0, 0, 0, 0, 1]⟩
theorem headS_eq (a b : Nat) : headS a b = ⟨#[UInt8.ofNat a, UInt8.ofNat b, 3, 0, 0, 0, 0, 1]⟩ := by
  apply ByteArray.ext
  simp [headS]
theorem headS_size (a b : Nat) : (headS a b).size = 8 := by rw [headS_eq]; rfl
theorem headS_tail (a b : Nat) : (headS a b).extract 2 (headS a b).size = ⟨#[3, 0, 0, 0, 0, 1]⟩ := by
  rw [headS_size, headS_eq]
  apply ByteArray.ext
  simp
theorem heads_plain (a b : Nat) (ha : a < 256) (hb : b < 256) {c : ByteArray} {n er : Int} (h : UnzR (headS a b) 0 c n er) :
    ((a % 16 = 8 ∧ a / 16 ≤ 7 ∧ (256 * a + b) % 31 = 0 ∧ b / 32 % 2 = 0) ∧ er = 0) ∨ (¬ (a % 16 = 8 ∧ a / 16 ≤ 7 ∧ (256 * a + b) % 31 = 0 ∧ b / 32 % 2 = 0) ∧ er = 3) := by
  have hz := headS_size a b
  have e0 : bt (headS a b) 0 = a := by rw [headS_eq, bt_eq _ _ (by show 0 < 8; omega)]; simp [ByteArray.getElem_eq_getElem_data]; omega
  have e1 : bt (headS a b) 1 = b := by rw [headS_eq, bt_eq _ _ (by show 1 < 8; omega)]; simp [ByteArray.getElem_eq_getElem_data]; omega
  have hn : numAt (headS a b) (2 + 2 : Int).toNat 4 true = adlN 1 ⟨#[]⟩ := by
    have b4 : bt (headS a b) 4 = 0 := by rw [headS_eq, bt_eq _ _ (by show 4 < 8; omega)]; rfl
    have b5 : bt (headS a b) 5 = 0 := by rw [headS_eq, bt_eq _ _ (by show 5 < 8; omega)]; rfl
    have b6 : bt (headS a b) 6 = 0 := by rw [headS_eq, bt_eq _ _ (by show 6 < 8; omega)]; rfl
    have b7 : bt (headS a b) 7 = 1 := by rw [headS_eq, bt_eq _ _ (by show 7 < 8; omega)]; rfl
    rw [show (2 + 2 : Int).toNat = 4 from rfl, num4, b4, b5, b6, b7]
    decide +kernel
  have hq := (head_num (headS a b) a b e0 e1).2.2
  by_cases hh : headB (numAt (headS a b) 0 2 true) = true
  · left
    refine ⟨hq.1 hh, ?_⟩
    have k : UnzR (headS a b) 0 ⟨#[]⟩ (6 + 2) 0 := .inr ⟨early_none (by omega) (by omega) hh, ⟨#[]⟩, 2, 0, by rw [headS_tail]; exact zi4, late_ok (by rw [hz]; omega) hn⟩
    exact (h.unique k).2.2
  · right
    refine ⟨fun k => hh (hq.2 k), ?_⟩
    have k : UnzR (headS a b) 0 ⟨#[]⟩ 0 3 := .inl ⟨early_form (by omega) (by omega) (by simpa using hh), rfl, rfl⟩
    exact (h.unique k).2.2
end Go.Proofs.YtgchopfagobleaaDoor
