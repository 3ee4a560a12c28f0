/- The document's May (contract of the function). -/
import Derived.Test.YthegehgjpehfkaaMatA
import Derived.Test.YthegehgjpehfkaaMatK
namespace Go.Proofs.Ythegehgjpehfkaa
open Go.RowKit
set_option linter.unusedVariables false
set_option maxRecDepth 100000 in
set_option maxHeartbeats 2000000 in
theorem may_any (x0 : Nat) (x1 x2 : Int) (w : World) :
    Calls Try.prog 17 #[.agg #[.int .u8 x0, .int .i64 x1, .int .i64 x2]] w fun e w' => e = .returned (.bool (tokOk ⟨x0, x1, x2⟩)) ∧ Bw w w' := by
  by_cases h0 : x2 = 0
  · subst h0
    have HF := hid (show tokOk ⟨x0, x1, 0⟩ = decide (x1 = 0) by unfold tokOk isB isM; simp)
    go_enter Try.func17, Try.ntmps17
    go_wp2
    go_returns
    refine ⟨ret_bool ?_, by unfold Bw; go_grown⟩
    rw [HF.out, Bool.eq_iff_iff]; simp
  · have t0 : (x2 == 0) = false := by simpa using h0
    have hm : tokOk ⟨x0, x1, x2⟩ = isM ⟨x0, x1, x2⟩ := by unfold tokOk isB; simp [h0]
    have HB := hid (show tokOk ⟨x0, x1, x2⟩ = decide (1 ≤ x2 ∧ x2 ≤ 32768 ∧ 3 ≤ x1 ∧ x1 ≤ 258 ∧ x0 = 0) from hm)
    clear hm h0
    by_cases h1 : 1 ≤ x2
    · by_cases h2 : x2 ≤ 32768
      · by_cases h3 : 3 ≤ x1
        · by_cases h4 : x1 ≤ 258
          · have HF := hid (show tokOk ⟨x0, x1, x2⟩ = decide (x0 = 0) by rw [HB.out]; simp [h1, h2, h3, h4])
            clear HB
            go_enter Try.func17, Try.ntmps17
            go_wp2
            go_returns
            refine ⟨ret_bool ?_, by unfold Bw; go_grown⟩
            rw [HF.out, Bool.eq_iff_iff]; simp
          · have HF := hid (show tokOk ⟨x0, x1, x2⟩ = false by rw [HB.out]; exact decide_eq_false (by omega))
            clear HB
            go_enter Try.func17, Try.ntmps17
            go_wp2
            go_returns
            exact ⟨ret_bool HF.out.symm, by unfold Bw; go_grown⟩
        · have HF := hid (show tokOk ⟨x0, x1, x2⟩ = false by rw [HB.out]; exact decide_eq_false (by omega))
          clear HB
          go_enter Try.func17, Try.ntmps17
          go_wp2
          go_returns
          exact ⟨ret_bool HF.out.symm, by unfold Bw; go_grown⟩
      · have HF := hid (show tokOk ⟨x0, x1, x2⟩ = false by rw [HB.out]; exact decide_eq_false (by omega))
        clear HB
        go_enter Try.func17, Try.ntmps17
        go_wp2
        go_returns
        exact ⟨ret_bool HF.out.symm, by unfold Bw; go_grown⟩
    · have HF := hid (show tokOk ⟨x0, x1, x2⟩ = false by rw [HB.out]; exact decide_eq_false (by omega))
      clear HB
      go_enter Try.func17, Try.ntmps17
      go_wp2
      go_returns
      exact ⟨ret_bool HF.out.symm, by unfold Bw; go_grown⟩
end Go.Proofs.Ythegehgjpehfkaa
