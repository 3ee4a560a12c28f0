/- isByte, isMatch (contracts of the functions). -/
import Derived.Test.YtacgnadhpgkcmaaDoorTokKit
namespace Go.Proofs.YtacgnadhpgkcmaaDoor
open Go.RowKit
set_option linter.unusedVariables false
/- isByte, isMatch, check; the document's May (contracts of the functions). -/
set_option maxHeartbeats 400000 in
theorem isByte_any (x0 : Nat) (x1 x2 : Int) (w : World) :
    Calls Tryd.prog 34 #[.agg #[.int .u8 x0, .int .i64 x1, .int .i64 x2]] w fun e w' => e = .returned (.bool (isB ⟨x0, x1, x2⟩)) ∧ Bw w w' := by
  have hb : isB ⟨x0, x1, x2⟩ = (decide (x2 = 0) && decide (x1 = 0)) := by unfold isB; simp
  have HB := hid hb
  clear hb
  by_cases h2 : x2 = 0
  · subst h2
    go_enter Tryd.func34, Tryd.ntmps34
    go_wp2
    all_goals (go_returns; refine ⟨ret_bool ?_, by unfold Bw; go_grown⟩; rw [HB.out, Bool.eq_iff_iff]; simp)
  · have t0 : (x2 == 0) = false := by simpa using h2
    have HF := hid (show isB ⟨x0, x1, x2⟩ = false by rw [HB.out, decide_eq_false h2]; rfl)
    clear h2 HB
    go_enter Tryd.func34, Tryd.ntmps34
    go_wp2
    go_returns
    exact ⟨ret_bool HF.out.symm, by unfold Bw; go_grown⟩
set_option maxHeartbeats 1000000 in
theorem isMatch_any (x0 : Nat) (x1 x2 : Int) (w : World) :
    Calls Tryd.prog 36 #[.agg #[.int .u8 x0, .int .i64 x1, .int .i64 x2]] w fun e w' => e = .returned (.bool (isM ⟨x0, x1, x2⟩)) ∧ Bw w w' := by
  have hb : isM ⟨x0, x1, x2⟩ = decide (1 ≤ x2 ∧ x2 ≤ 32768 ∧ 3 ≤ x1 ∧ x1 ≤ 258 ∧ x0 = 0) := rfl
  have HB := hid hb
  clear hb
  by_cases h1 : 1 ≤ x2
  · by_cases h2 : x2 ≤ 32768
    · by_cases h3 : 3 ≤ x1
      · by_cases h4 : x1 ≤ 258
        · have HF := hid (show isM ⟨x0, x1, x2⟩ = decide (x0 = 0) by rw [HB.out]; simp [h1, h2, h3, h4])
          clear HB
          go_enter Tryd.func36, Tryd.ntmps36
          go_wp2
          go_returns
          refine ⟨ret_bool ?_, by unfold Bw; go_grown⟩
          rw [HF.out, Bool.eq_iff_iff]; simp
        · have HF := hid (show isM ⟨x0, x1, x2⟩ = false by rw [HB.out]; exact decide_eq_false (by omega))
          clear HB
          go_enter Tryd.func36, Tryd.ntmps36
          go_wp2
          go_returns
          exact ⟨ret_bool HF.out.symm, by unfold Bw; go_grown⟩
      · have HF := hid (show isM ⟨x0, x1, x2⟩ = false by rw [HB.out]; exact decide_eq_false (by omega))
        clear HB
        go_enter Tryd.func36, Tryd.ntmps36
        go_wp2
        go_returns
        exact ⟨ret_bool HF.out.symm, by unfold Bw; go_grown⟩
    · have HF := hid (show isM ⟨x0, x1, x2⟩ = false by rw [HB.out]; exact decide_eq_false (by omega))
      clear HB
      go_enter Tryd.func36, Tryd.ntmps36
      go_wp2
      go_returns
      exact ⟨ret_bool HF.out.symm, by unfold Bw; go_grown⟩
  · have HF := hid (show isM ⟨x0, x1, x2⟩ = false by rw [HB.out]; exact decide_eq_false (by omega))
    clear HB
    go_enter Tryd.func36, Tryd.ntmps36
    go_wp2
    go_returns
    exact ⟨ret_bool HF.out.symm, by unfold Bw; go_grown⟩
end Go.Proofs.YtacgnadhpgkcmaaDoor
