/- isByte, isMatch, check; the document's May (contracts of the functions). -/
import Derived.Test.YthegehgjpehfkaaTokKit
namespace Go.Proofs.Ythegehgjpehfkaa
open Go.RowKit
set_option linter.unusedVariables false
set_option maxHeartbeats 400000 in
theorem isByte_any (x0 : Nat) (x1 x2 : Int) (w : World) :
    Calls Try.prog 16 #[.agg #[.int .u8 x0, .int .i64 x1, .int .i64 x2]] w fun e w' => e = .returned (.bool (isB ⟨x0, x1, x2⟩)) ∧ Bw w w' := by
  have hb : isB ⟨x0, x1, x2⟩ = (decide (x2 = 0) && decide (x1 = 0)) := by unfold isB; simp
  have HB := hid hb
  clear hb
  by_cases h2 : x2 = 0
  · subst h2
    go_enter Try.func16, Try.ntmps16
    go_wp2
    all_goals (go_returns; refine ⟨ret_bool ?_, by unfold Bw; go_grown⟩; rw [HB.out, Bool.eq_iff_iff]; simp)
  · have t0 : (x2 == 0) = false := by simpa using h2
    have HF := hid (show isB ⟨x0, x1, x2⟩ = false by rw [HB.out, decide_eq_false h2]; rfl)
    clear h2 HB
    go_enter Try.func16, Try.ntmps16
    go_wp2
    go_returns
    exact ⟨ret_bool HF.out.symm, by unfold Bw; go_grown⟩
set_option maxHeartbeats 1000000 in
theorem isMatch_any (x0 : Nat) (x1 x2 : Int) (w : World) :
    Calls Try.prog 19 #[.agg #[.int .u8 x0, .int .i64 x1, .int .i64 x2]] w fun e w' => e = .returned (.bool (isM ⟨x0, x1, x2⟩)) ∧ Bw w w' := by
  have hb : isM ⟨x0, x1, x2⟩ = decide (1 ≤ x2 ∧ x2 ≤ 32768 ∧ 3 ≤ x1 ∧ x1 ≤ 258 ∧ x0 = 0) := rfl
  have HB := hid hb
  clear hb
  by_cases h1 : 1 ≤ x2
  · by_cases h2 : x2 ≤ 32768
    · by_cases h3 : 3 ≤ x1
      · by_cases h4 : x1 ≤ 258
        · have HF := hid (show isM ⟨x0, x1, x2⟩ = decide (x0 = 0) by rw [HB.out]; simp [h1, h2, h3, h4])
          clear HB
          go_enter Try.func19, Try.ntmps19
          go_wp2
          go_returns
          refine ⟨ret_bool ?_, by unfold Bw; go_grown⟩
          rw [HF.out, Bool.eq_iff_iff]; simp
        · have HF := hid (show isM ⟨x0, x1, x2⟩ = false by rw [HB.out]; exact decide_eq_false (by omega))
          clear HB
          go_enter Try.func19, Try.ntmps19
          go_wp2
          go_returns
          exact ⟨ret_bool HF.out.symm, by unfold Bw; go_grown⟩
      · have HF := hid (show isM ⟨x0, x1, x2⟩ = false by rw [HB.out]; exact decide_eq_false (by omega))
        clear HB
        go_enter Try.func19, Try.ntmps19
        go_wp2
        go_returns
        exact ⟨ret_bool HF.out.symm, by unfold Bw; go_grown⟩
    · have HF := hid (show isM ⟨x0, x1, x2⟩ = false by rw [HB.out]; exact decide_eq_false (by omega))
      clear HB
      go_enter Try.func19, Try.ntmps19
      go_wp2
      go_returns
      exact ⟨ret_bool HF.out.symm, by unfold Bw; go_grown⟩
  · have HF := hid (show isM ⟨x0, x1, x2⟩ = false by rw [HB.out]; exact decide_eq_false (by omega))
    clear HB
    go_enter Try.func19, Try.ntmps19
    go_wp2
    go_returns
    exact ⟨ret_bool HF.out.symm, by unfold Bw; go_grown⟩
set_option maxRecDepth 100000 in
set_option maxHeartbeats 2000000 in
theorem check_any (x0 : Nat) (x1 x2 : Int) (k : Nat) (limit : Int) (hk : k ≤ 9000000000000) (hl0 : 0 ≤ limit) (hl : limit ≤ 1073741824) (w : World) :
    Calls Try.prog 15 #[.agg #[.int .u8 x0, .int .i64 x1, .int .i64 x2], .int .i64 k, .int .i64 limit] w fun e w' => e = .returned (.int .i64 (tokE ⟨x0, x1, x2⟩ k limit)) ∧ Bw w w' := by
  have HB := hid (fun W => isByte_any x0 x1 x2 W)
  have HM := hid (fun W => isMatch_any x0 x1 x2 W)
  have hE : tokE ⟨x0, x1, x2⟩ k limit = if isB ⟨x0, x1, x2⟩ then (if limit - k < 1 then 11 else 0) else if isM ⟨x0, x1, x2⟩ then (if (k : Int) < x2 then 3 else if limit - k < x1 then 11 else 0) else 1 := rfl
  have h12 : isM ⟨x0, x1, x2⟩ = true → 1 ≤ x2 ∧ x2 ≤ 32768 ∧ 3 ≤ x1 ∧ x1 ≤ 258 := fun h => by have := isM_iff.1 h; exact ⟨this.1, this.2.1, this.2.2.1, this.2.2.2.1⟩
  have HW := hid ((Has.new w 37 #[.int .u8 x0, .int .i64 x1, .int .i64 x2]))
  have H0 := hid ((Bw.refl w).alloc (.cells #[.int .u8 x0, .int .i64 x1, .int .i64 x2] 37))
  cases hb : isB ⟨x0, x1, x2⟩ with
  | true =>
    rw [hb] at hE HB
    simp only [if_true] at hE
    have HE := hid hE
    clear hE hb h12 HM
    go_enter Try.func15, Try.ntmps15
    go_wp2_with fail
    refine (HB.out _).mono ?_
    rintro e w1 ⟨rfl, hw1⟩
    have HW1 := hid (H0.out.trans hw1)
    clear hw1
    go_wp2
    all_goals
      go_returns
      rename_i hif
      refine ⟨?_, HW1.out⟩
      rw [HE.out]
      first
        | (rw [if_pos (by omega)]; rfl)
        | (rw [if_neg (by omega)]; rfl)
  | false =>
    rw [hb] at hE HB
    simp only [Bool.false_eq_true, if_false] at hE
    cases hm : isM ⟨x0, x1, x2⟩ with
    | false =>
      rw [hm] at hE HM
      simp only [Bool.false_eq_true, if_false] at hE
      have HE := hid hE
      clear hE hb h12 hm
      go_enter Try.func15, Try.ntmps15
      go_wp2_with fail
      refine (HB.out _).mono ?_
      rintro e w1 ⟨rfl, hw1⟩
      have HW1 := hid (H0.out.trans hw1)
      have c1 := hw1.has HW.out
      have HC1 := hid c1
      have d0 := c1.cell 0
      have d1 := c1.cell 1
      have d2 := c1.cell 2
      have d0 : w1.cell? ⟨w.heap.size, 0, none⟩ = some (.int .u8 x0) := d0
      have d1 : w1.cell? ⟨w.heap.size, 1, none⟩ = some (.int .i64 x1) := d1
      have d2 : w1.cell? ⟨w.heap.size, 2, none⟩ = some (.int .i64 x2) := d2
      clear hw1 c1
      go_wp2_with fail
      refine (HM.out _).mono ?_
      rintro e w2 ⟨rfl, hw2⟩
      have HW2 := hid (HW1.out.trans hw2)
      clear hw2
      go_wp2
      go_returns
      exact ⟨by rw [HE.out]; rfl, HW2.out⟩
    | true =>
      rw [hm] at hE HM
      simp only [if_true] at hE
      obtain ⟨b1, b2, b3, b4⟩ := h12 hm
      have HE := hid hE
      clear hE hb h12 hm
      go_enter Try.func15, Try.ntmps15
      go_wp2_with fail
      refine (HB.out _).mono ?_
      rintro e w1 ⟨rfl, hw1⟩
      have HW1 := hid (H0.out.trans hw1)
      have c1 := hw1.has HW.out
      have HC1 := hid c1
      have d0 := c1.cell 0
      have d1 := c1.cell 1
      have d2 := c1.cell 2
      have d0 : w1.cell? ⟨w.heap.size, 0, none⟩ = some (.int .u8 x0) := d0
      have d1 : w1.cell? ⟨w.heap.size, 1, none⟩ = some (.int .i64 x1) := d1
      have d2 : w1.cell? ⟨w.heap.size, 2, none⟩ = some (.int .i64 x2) := d2
      clear hw1 c1
      go_wp2_with fail
      refine (HM.out _).mono ?_
      rintro e w2 ⟨rfl, hw2⟩
      have HW2 := hid (HW1.out.trans hw2)
      have c2 := hw2.has HC1.out
      have e1 : w2.cell? ⟨w.heap.size, 1, none⟩ = some (.int .i64 x1) := c2.cell 1
      have e2 : w2.cell? ⟨w.heap.size, 2, none⟩ = some (.int .i64 x2) := c2.cell 2
      clear hw2 c2
      by_cases g1 : (k : Int) < x2
      · have HE2 := hid (HE.out.trans (if_pos g1))
        clear HE
        go_wp2
        go_returns
        exact ⟨by rw [HE2.out]; rfl, HW2.out⟩
      · have HE2 := hid (HE.out.trans (if_neg g1))
        clear HE
        by_cases g2 : limit - k < x1
        · have HE3 := hid (HE2.out.trans (if_pos g2))
          clear HE2
          go_wp2
          go_returns
          exact ⟨by rw [HE3.out]; rfl, HW2.out⟩
        · have HE3 := hid (HE2.out.trans (if_neg g2))
          clear HE2
          go_wp2
          go_returns
          exact ⟨by rw [HE3.out]; rfl, HW2.out⟩
end Go.Proofs.Ythegehgjpehfkaa
