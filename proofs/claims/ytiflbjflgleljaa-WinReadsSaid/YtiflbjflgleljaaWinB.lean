/- What win's and the document's products and multiples return, for every pair of ints (contracts of the functions; no condition but that the arguments are ints). -/
import Derived.Test.YtiflbjflgleljaaWinA
namespace Go.Proofs.Ytiflbjflgleljaa
open Go.RowKit

def MulOk (a b : Int) : Prop := Off a ∧ Off b ∧ a * b ≤ 4611686018427387904
instance (a b : Int) : Decidable (MulOk a b) := by unfold MulOk Off; infer_instance
def mulN (a b : Int) : Int := if MulOk a b then a * b else 0
def mulB (a b : Int) : Bool := decide (MulOk a b)
theorem mulN_yes {a b : Int} (h : MulOk a b) : mulN a b = a * b := if_pos h
theorem mulB_yes {a b : Int} (h : MulOk a b) : mulB a b = true := decide_eq_true h
theorem mulN_no {a b : Int} (h : ¬ MulOk a b) : mulN a b = 0 := if_neg h
theorem mulB_no {a b : Int} (h : ¬ MulOk a b) : mulB a b = false := decide_eq_false h
theorem mul_le {a b : Int} (ha : 0 < a) (h : b ≤ 4611686018427387904 / a) : a * b ≤ 4611686018427387904 := by
  rw [Int.mul_comm]; exact (Int.le_ediv_iff_mul_le ha).1 h
theorem mul_gt {a b : Int} (ha : 0 < a) (h : ¬ b ≤ 4611686018427387904 / a) : ¬ a * b ≤ 4611686018427387904 := by
  intro h2; rw [Int.mul_comm] at h2; exact h ((Int.le_ediv_iff_mul_le ha).2 h2)

def AlignIn (n a : Int) : Prop := Off n ∧ 1 ≤ a ∧ a ≤ 1048576
instance (a b : Int) : Decidable (AlignIn a b) := by unfold AlignIn Off; infer_instance
def alignN (n a : Int) : Int := if AlignIn n a then (if n % a = 0 then n else addN n (a - n % a)) else 0
def alignB (n a : Int) : Bool := if AlignIn n a then (if n % a = 0 then true else addB n (a - n % a)) else false
theorem alignN_no {n a : Int} (h : ¬ AlignIn n a) : alignN n a = 0 := if_neg h
theorem alignB_no {n a : Int} (h : ¬ AlignIn n a) : alignB n a = false := if_neg h
theorem alignN_zero {n a : Int} (h : AlignIn n a) (k : n % a = 0) : alignN n a = n := by rw [alignN, if_pos h, if_pos k]
theorem alignB_zero {n a : Int} (h : AlignIn n a) (k : n % a = 0) : alignB n a = true := by rw [alignB, if_pos h, if_pos k]
theorem alignN_add {n a : Int} (h : AlignIn n a) (k : ¬ n % a = 0) : alignN n a = addN n (a - n % a) := by rw [alignN, if_pos h, if_neg k]
theorem alignB_add {n a : Int} (h : AlignIn n a) (k : ¬ n % a = 0) : alignB n a = addB n (a - n % a) := by rw [alignB, if_pos h, if_neg k]

set_option maxHeartbeats 400000 in
theorem mul_any (a b : Int) (w : World) :
    Calls Try.prog 15 #[.int .i64 a, .int .i64 b] w fun e w' => e = .returned (.tuple #[.int .i64 (mulN a b), .bool (mulB a b)]) ∧ w = w' := by
  by_cases ha : offB a = true
  · by_cases hb : offB b = true
    · obtain ⟨a0, a1⟩ := off_bounds ha
      obtain ⟨b0, b1⟩ := off_bounds hb
      by_cases hz : 0 < a
      · have hq0 : 0 ≤ (4611686018427387904 : Int) / a := Int.ediv_nonneg (by omega) (by omega)
        have hq1 : (4611686018427387904 : Int) / a ≤ 4611686018427387904 := Int.ediv_le_self _ (by omega)
        by_cases hc : b ≤ 4611686018427387904 / a
        · have hm := mul_le hz hc
          have hm0 : 0 ≤ a * b := Int.mul_nonneg a0 b0
          go_enter Try.func15, Try.ntmps15
          go_wp2_with (go_at_call 41; refine (isOffset_any _ _).mono ?_; rintro e w' ⟨rfl, rfl⟩)
          go_ret2
          exact ⟨ret_add (mulN_yes ⟨⟨a0, a1⟩, ⟨b0, b1⟩, hm⟩).symm (mulB_yes ⟨⟨a0, a1⟩, ⟨b0, b1⟩, hm⟩).symm, rfl⟩
        · have hn : ¬ MulOk a b := fun h => mul_gt hz hc h.2.2
          go_enter Try.func15, Try.ntmps15
          go_wp2_with (go_at_call 41; refine (isOffset_any _ _).mono ?_; rintro e w' ⟨rfl, rfl⟩)
          go_ret2
          exact ⟨ret_add (mulN_no hn).symm (mulB_no hn).symm, rfl⟩
      · obtain rfl : a = 0 := by omega
        have hy : MulOk 0 b := ⟨⟨by omega, by omega⟩, ⟨b0, b1⟩, by omega⟩
        clear hz a0 a1
        go_enter Try.func15, Try.ntmps15
        go_wp2_with (go_at_call 41; refine (isOffset_any _ _).mono ?_; rintro e w' ⟨rfl, rfl⟩)
        go_ret2
        exact ⟨ret_add (by rw [mulN_yes hy]; simp) (mulB_yes hy).symm, rfl⟩
    · have hb1 : offB b = false := by simpa using hb
      have hn : ¬ MulOk a b := fun h => hb (offB_iff.2 h.2.1)
      clear hb
      go_enter Try.func15, Try.ntmps15
      go_wp2_with (go_at_call 41; refine (isOffset_any _ _).mono ?_; rintro e w' ⟨rfl, rfl⟩)
      go_ret2
      exact ⟨ret_add (mulN_no hn).symm (mulB_no hn).symm, rfl⟩
  · have ha1 : offB a = false := by simpa using ha
    have hn : ¬ MulOk a b := fun h => ha (offB_iff.2 h.1)
    clear ha
    go_enter Try.func15, Try.ntmps15
    go_wp2_with (go_at_call 41; refine (isOffset_any _ _).mono ?_; rintro e w' ⟨rfl, rfl⟩)
    go_ret2
    exact ⟨ret_add (mulN_no hn).symm (mulB_no hn).symm, rfl⟩

set_option maxHeartbeats 400000 in
theorem refmul_any (a b : Int) (w : World) :
    Calls Try.prog 16 #[.int .i64 a, .int .i64 b] w fun e w' => e = .returned (.tuple #[.int .i64 (mulN a b), .bool (mulB a b)]) ∧ w = w' := by
  by_cases ha : offB a = true
  · by_cases hb : offB b = true
    · obtain ⟨a0, a1⟩ := off_bounds ha
      obtain ⟨b0, b1⟩ := off_bounds hb
      by_cases hz : 0 < a
      · have hq0 : 0 ≤ (4611686018427387904 : Int) / a := Int.ediv_nonneg (by omega) (by omega)
        have hq1 : (4611686018427387904 : Int) / a ≤ 4611686018427387904 := Int.ediv_le_self _ (by omega)
        by_cases hc : b ≤ 4611686018427387904 / a
        · have hm := mul_le hz hc
          have hm0 : 0 ≤ a * b := Int.mul_nonneg a0 b0
          go_enter Try.func16, Try.ntmps16
          go_wp2_with (go_at_call 42; refine (place_any _ _).mono ?_; rintro e w' ⟨rfl, rfl⟩)
          go_ret2
          exact ⟨ret_add (mulN_yes ⟨⟨a0, a1⟩, ⟨b0, b1⟩, hm⟩).symm (mulB_yes ⟨⟨a0, a1⟩, ⟨b0, b1⟩, hm⟩).symm, rfl⟩
        · have hn : ¬ MulOk a b := fun h => mul_gt hz hc h.2.2
          go_enter Try.func16, Try.ntmps16
          go_wp2_with (go_at_call 42; refine (place_any _ _).mono ?_; rintro e w' ⟨rfl, rfl⟩)
          go_ret2
          exact ⟨ret_add (mulN_no hn).symm (mulB_no hn).symm, rfl⟩
      · obtain rfl : a = 0 := by omega
        have hy : MulOk 0 b := ⟨⟨by omega, by omega⟩, ⟨b0, b1⟩, by omega⟩
        clear hz a0 a1
        go_enter Try.func16, Try.ntmps16
        go_wp2_with (go_at_call 42; refine (place_any _ _).mono ?_; rintro e w' ⟨rfl, rfl⟩)
        go_ret2
        exact ⟨ret_add (by rw [mulN_yes hy]; simp) (mulB_yes hy).symm, rfl⟩
    · have hb1 : offB b = false := by simpa using hb
      have hn : ¬ MulOk a b := fun h => hb (offB_iff.2 h.2.1)
      clear hb
      go_enter Try.func16, Try.ntmps16
      go_wp2_with (go_at_call 42; refine (place_any _ _).mono ?_; rintro e w' ⟨rfl, rfl⟩)
      go_ret2
      exact ⟨ret_add (mulN_no hn).symm (mulB_no hn).symm, rfl⟩
  · have ha1 : offB a = false := by simpa using ha
    have hn : ¬ MulOk a b := fun h => ha (offB_iff.2 h.1)
    clear ha
    go_enter Try.func16, Try.ntmps16
    go_wp2_with (go_at_call 42; refine (place_any _ _).mono ?_; rintro e w' ⟨rfl, rfl⟩)
    go_ret2
    exact ⟨ret_add (mulN_no hn).symm (mulB_no hn).symm, rfl⟩

set_option maxHeartbeats 400000 in
theorem align_any (n a : Int) (w : World) :
    Calls Try.prog 17 #[.int .i64 n, .int .i64 a] w fun e w' => e = .returned (.tuple #[.int .i64 (alignN n a), .bool (alignB n a)]) ∧ w = w' := by
  by_cases hn : offB n = true
  · obtain ⟨n0, n1⟩ := off_bounds hn
    by_cases ha : 1 ≤ a
    · by_cases hc : a ≤ 1048576
      · have hy : AlignIn n a := ⟨⟨n0, n1⟩, ha, hc⟩
        have hr0 : 0 ≤ n % a := Int.emod_nonneg _ (by omega)
        have hr1 : n % a < a := Int.emod_lt_of_pos _ (by omega)
        by_cases hr : n % a = 0
        · have hrb : (n % a == 0) = true := by rw [beq_iff_eq]; exact hr
          have e1 := hid (alignN_zero hy hr)
          have e2 := hid (alignB_zero hy hr)
          clear hr hy hr0 hr1
          go_enter Try.func17, Try.ntmps17
          go_wp2_with (first | (go_at_call 41; refine (isOffset_any _ _).mono ?_; rintro e w' ⟨rfl, rfl⟩) | (go_at_call 13; refine (add_any _ _ _).mono ?_; rintro e w' ⟨rfl, rfl⟩))
          go_ret2
          exact ⟨ret_add e1.out.symm e2.out.symm, rfl⟩
        · have hrb : (n % a == 0) = false := by rw [beq_eq_false_iff_ne]; exact hr
          have e1 := hid (alignN_add hy hr)
          have e2 := hid (alignB_add hy hr)
          clear hr hy
          go_enter Try.func17, Try.ntmps17
          go_wp2_with (first | (go_at_call 41; refine (isOffset_any _ _).mono ?_; rintro e w' ⟨rfl, rfl⟩) | (go_at_call 13; refine (add_any _ _ _).mono ?_; rintro e w' ⟨rfl, rfl⟩))
          go_ret2
          exact ⟨ret_add e1.out.symm e2.out.symm, rfl⟩
      · have hy : ¬ AlignIn n a := fun h => hc h.2.2
        go_enter Try.func17, Try.ntmps17
        go_wp2_with (first | (go_at_call 41; refine (isOffset_any _ _).mono ?_; rintro e w' ⟨rfl, rfl⟩) | (go_at_call 13; refine (add_any _ _ _).mono ?_; rintro e w' ⟨rfl, rfl⟩))
        go_ret2
        exact ⟨ret_add (alignN_no hy).symm (alignB_no hy).symm, rfl⟩
    · have hy : ¬ AlignIn n a := fun h => ha h.2.1
      go_enter Try.func17, Try.ntmps17
      go_wp2_with (first | (go_at_call 41; refine (isOffset_any _ _).mono ?_; rintro e w' ⟨rfl, rfl⟩) | (go_at_call 13; refine (add_any _ _ _).mono ?_; rintro e w' ⟨rfl, rfl⟩))
      go_ret2
      exact ⟨ret_add (alignN_no hy).symm (alignB_no hy).symm, rfl⟩
  · have ha1 : offB n = false := by simpa using hn
    have hy : ¬ AlignIn n a := fun h => hn (offB_iff.2 h.1)
    clear hn
    go_enter Try.func17, Try.ntmps17
    go_wp2_with (first | (go_at_call 41; refine (isOffset_any _ _).mono ?_; rintro e w' ⟨rfl, rfl⟩) | (go_at_call 13; refine (add_any _ _ _).mono ?_; rintro e w' ⟨rfl, rfl⟩))
    go_ret2
    exact ⟨ret_add (alignN_no hy).symm (alignB_no hy).symm, rfl⟩

set_option maxHeartbeats 400000 in
theorem refalign_any (n a : Int) (w : World) :
    Calls Try.prog 18 #[.int .i64 n, .int .i64 a] w fun e w' => e = .returned (.tuple #[.int .i64 (alignN n a), .bool (alignB n a)]) ∧ w = w' := by
  by_cases hn : offB n = true
  · obtain ⟨n0, n1⟩ := off_bounds hn
    by_cases ha : 1 ≤ a
    · by_cases hc : a ≤ 1048576
      · have hy : AlignIn n a := ⟨⟨n0, n1⟩, ha, hc⟩
        have hr0 : 0 ≤ n % a := Int.emod_nonneg _ (by omega)
        have hr1 : n % a < a := Int.emod_lt_of_pos _ (by omega)
        by_cases hr : n % a = 0
        · have hrb : (n % a == 0) = true := by rw [beq_iff_eq]; exact hr
          have e1 := hid (alignN_zero hy hr)
          have e2 := hid (alignB_zero hy hr)
          clear hr hy hr0 hr1
          go_enter Try.func18, Try.ntmps18
          go_wp2_with (first | (go_at_call 42; refine (place_any _ _).mono ?_; rintro e w' ⟨rfl, rfl⟩) | (go_at_call 14; refine (refadd_any _ _ _).mono ?_; rintro e w' ⟨rfl, rfl⟩))
          go_ret2
          exact ⟨ret_add e1.out.symm e2.out.symm, rfl⟩
        · have hrb : (n % a == 0) = false := by rw [beq_eq_false_iff_ne]; exact hr
          have e1 := hid (alignN_add hy hr)
          have e2 := hid (alignB_add hy hr)
          clear hr hy
          go_enter Try.func18, Try.ntmps18
          go_wp2_with (first | (go_at_call 42; refine (place_any _ _).mono ?_; rintro e w' ⟨rfl, rfl⟩) | (go_at_call 14; refine (refadd_any _ _ _).mono ?_; rintro e w' ⟨rfl, rfl⟩))
          go_ret2
          exact ⟨ret_add e1.out.symm e2.out.symm, rfl⟩
      · have hy : ¬ AlignIn n a := fun h => hc h.2.2
        go_enter Try.func18, Try.ntmps18
        go_wp2_with (first | (go_at_call 42; refine (place_any _ _).mono ?_; rintro e w' ⟨rfl, rfl⟩) | (go_at_call 14; refine (refadd_any _ _ _).mono ?_; rintro e w' ⟨rfl, rfl⟩))
        go_ret2
        exact ⟨ret_add (alignN_no hy).symm (alignB_no hy).symm, rfl⟩
    · have hy : ¬ AlignIn n a := fun h => ha h.2.1
      go_enter Try.func18, Try.ntmps18
      go_wp2_with (first | (go_at_call 42; refine (place_any _ _).mono ?_; rintro e w' ⟨rfl, rfl⟩) | (go_at_call 14; refine (refadd_any _ _ _).mono ?_; rintro e w' ⟨rfl, rfl⟩))
      go_ret2
      exact ⟨ret_add (alignN_no hy).symm (alignB_no hy).symm, rfl⟩
  · have ha1 : offB n = false := by simpa using hn
    have hy : ¬ AlignIn n a := fun h => hn (offB_iff.2 h.1)
    clear hn
    go_enter Try.func18, Try.ntmps18
    go_wp2_with (first | (go_at_call 42; refine (place_any _ _).mono ?_; rintro e w' ⟨rfl, rfl⟩) | (go_at_call 14; refine (refadd_any _ _ _).mono ?_; rintro e w' ⟨rfl, rfl⟩))
    go_ret2
    exact ⟨ret_add (alignN_no hy).symm (alignB_no hy).symm, rfl⟩

end Go.Proofs.Ytiflbjflgleljaa
