/- What win's and the document's sums, products and multiples return, for every pair of ints (contracts of the functions; no condition but that the arguments are ints). -/
import Derived.Test.YtiflbjflgleljaaRows
import Derived.Test.YtiflbjflgleljaaBase
namespace Go.Proofs.Ytiflbjflgleljaa
open Go.RowKit


def Off (n : Int) : Prop := 0 ≤ n ∧ n ≤ 4611686018427387904
def offB (n : Int) : Bool := decide (0 ≤ n ∧ n ≤ 4611686018427387904)
theorem offB_iff {n : Int} : offB n = true ↔ Off n := by simp [offB, Off]
theorem off_bounds {n : Int} (h : offB n = true) : 0 ≤ n ∧ n ≤ 4611686018427387904 := offB_iff.1 h
def AddOk (a b : Int) : Prop := Off a ∧ Off b ∧ a + b ≤ 4611686018427387904
instance (a b : Int) : Decidable (AddOk a b) := by unfold AddOk Off; infer_instance
def addN (a b : Int) : Int := if AddOk a b then a + b else 0
def addB (a b : Int) : Bool := decide (AddOk a b)
theorem addN_yes {a b : Int} (ha : Off a) (hb : Off b) (hc : a + b ≤ 4611686018427387904) : addN a b = a + b := if_pos ⟨ha, hb, hc⟩
theorem addB_yes {a b : Int} (ha : Off a) (hb : Off b) (hc : a + b ≤ 4611686018427387904) : addB a b = true := decide_eq_true ⟨ha, hb, hc⟩
theorem addN_no {a b : Int} (h : ¬ AddOk a b) : addN a b = 0 := if_neg h
theorem addB_no {a b : Int} (h : ¬ AddOk a b) : addB a b = false := decide_eq_false h
theorem ret_add {n m : Int} {a b : Bool} (h : n = m) (k : a = b) : Ending.returned (.tuple #[.int .i64 n, .bool a]) = .returned (.tuple #[.int .i64 m, .bool b]) := by rw [h, k]

set_option maxHeartbeats 400000 in
theorem isOffset_any (n : Int) (w : World) :
    Calls Try.prog 41 #[.int .i64 n] w fun e w' => e = .returned (.bool (offB n)) ∧ w = w' := by
  go_enter Try.func41, Try.ntmps41
  go_wp2
  all_goals (go_ret; refine ⟨ret_bool ?_, rfl⟩; simp [offB]; try omega)

set_option maxHeartbeats 400000 in
theorem place_any (n : Int) (w : World) :
    Calls Try.prog 42 #[.int .i64 n] w fun e w' => e = .returned (.bool (offB n)) ∧ w = w' := by
  go_enter Try.func42, Try.ntmps42
  go_wp2
  all_goals (go_ret; refine ⟨ret_bool ?_, rfl⟩; simp [offB]; try omega)


set_option maxHeartbeats 400000 in
theorem add_any (a b : Int) (w : World) :
    Calls Try.prog 13 #[.int .i64 a, .int .i64 b] w fun e w' => e = .returned (.tuple #[.int .i64 (addN a b), .bool (addB a b)]) ∧ w = w' := by
  by_cases ha : offB a = true
  · by_cases hb : offB b = true
    · obtain ⟨a0, a1⟩ := off_bounds ha
      obtain ⟨b0, b1⟩ := off_bounds hb
      by_cases hc : b ≤ 4611686018427387904 - a
      · go_enter Try.func13, Try.ntmps13
        go_wp2_with (go_at_call 41; refine (isOffset_any _ _).mono ?_; rintro e w' ⟨rfl, rfl⟩)
        go_ret2
        exact ⟨ret_add (addN_yes ⟨a0, a1⟩ ⟨b0, b1⟩ (by omega)).symm (addB_yes ⟨a0, a1⟩ ⟨b0, b1⟩ (by omega)).symm, rfl⟩
      · go_enter Try.func13, Try.ntmps13
        go_wp2_with (go_at_call 41; refine (isOffset_any _ _).mono ?_; rintro e w' ⟨rfl, rfl⟩)
        go_ret2
        exact ⟨ret_add (addN_no (fun h => by have := h.2.2; omega)).symm (addB_no (fun h => by have := h.2.2; omega)).symm, rfl⟩
    · have hb1 : offB b = false := by simpa using hb
      have hn : ¬ Off b := fun h => hb (offB_iff.2 h)
      clear hb
      go_enter Try.func13, Try.ntmps13
      go_wp2_with (go_at_call 41; refine (isOffset_any _ _).mono ?_; rintro e w' ⟨rfl, rfl⟩)
      go_ret2
      exact ⟨ret_add (addN_no (fun h => hn h.2.1)).symm (addB_no (fun h => hn h.2.1)).symm, rfl⟩
  · have ha1 : offB a = false := by simpa using ha
    have hn : ¬ Off a := fun h => ha (offB_iff.2 h)
    clear ha
    go_enter Try.func13, Try.ntmps13
    go_wp2_with (go_at_call 41; refine (isOffset_any _ _).mono ?_; rintro e w' ⟨rfl, rfl⟩)
    go_ret2
    exact ⟨ret_add (addN_no (fun h => hn h.1)).symm (addB_no (fun h => hn h.1)).symm, rfl⟩

set_option maxHeartbeats 400000 in
theorem refadd_any (a b : Int) (w : World) :
    Calls Try.prog 14 #[.int .i64 a, .int .i64 b] w fun e w' => e = .returned (.tuple #[.int .i64 (addN a b), .bool (addB a b)]) ∧ w = w' := by
  by_cases ha : offB a = true
  · by_cases hb : offB b = true
    · obtain ⟨a0, a1⟩ := off_bounds ha
      obtain ⟨b0, b1⟩ := off_bounds hb
      by_cases hc : a ≤ 4611686018427387904 - b
      · go_enter Try.func14, Try.ntmps14
        go_wp2_with (go_at_call 42; refine (place_any _ _).mono ?_; rintro e w' ⟨rfl, rfl⟩)
        go_ret2
        exact ⟨ret_add (addN_yes ⟨a0, a1⟩ ⟨b0, b1⟩ (by omega)).symm (addB_yes ⟨a0, a1⟩ ⟨b0, b1⟩ (by omega)).symm, rfl⟩
      · go_enter Try.func14, Try.ntmps14
        go_wp2_with (go_at_call 42; refine (place_any _ _).mono ?_; rintro e w' ⟨rfl, rfl⟩)
        go_ret2
        exact ⟨ret_add (addN_no (fun h => by have := h.2.2; omega)).symm (addB_no (fun h => by have := h.2.2; omega)).symm, rfl⟩
    · have hb1 : offB b = false := by simpa using hb
      have hn : ¬ Off b := fun h => hb (offB_iff.2 h)
      clear hb
      go_enter Try.func14, Try.ntmps14
      go_wp2_with (go_at_call 42; refine (place_any _ _).mono ?_; rintro e w' ⟨rfl, rfl⟩)
      go_ret2
      exact ⟨ret_add (addN_no (fun h => hn h.2.1)).symm (addB_no (fun h => hn h.2.1)).symm, rfl⟩
  · have ha1 : offB a = false := by simpa using ha
    have hn : ¬ Off a := fun h => ha (offB_iff.2 h)
    clear ha
    go_enter Try.func14, Try.ntmps14
    go_wp2_with (go_at_call 42; refine (place_any _ _).mono ?_; rintro e w' ⟨rfl, rfl⟩)
    go_ret2
    exact ⟨ret_add (addN_no (fun h => hn h.1)).symm (addB_no (fun h => hn h.1)).symm, rfl⟩

end Go.Proofs.Ytiflbjflgleljaa
