/- What an operator makes of two numbers (contract of the function; made by genExpW.py). -/
import Derived.Test.YtlilmidffcmkjaaGreatDoorExpO
import Derived.Laws.Bits64b
import Derived.BigRegion
namespace Go.Proofs.YtlilmidffcmkjaaGreatDoor
open Go.RowKit
set_option linter.unusedVariables false
set_option linter.unusedSimpArgs false
theorem app_div {o : ByteArray} {a b : Nat} (h0 : o ≠ ⟨#[61, 61]⟩) (h1 : o ≠ ⟨#[33, 61]⟩) (h2 : o ≠ ⟨#[60]⟩) (h3 : o ≠ ⟨#[124]⟩) (h4 : o ≠ ⟨#[38]⟩) (h5 : o ≠ ⟨#[60, 60]⟩) (h6 : o ≠ ⟨#[62, 62]⟩) (h7 : o ≠ ⟨#[43]⟩) (h8 : o ≠ ⟨#[45]⟩) (h9 : o ≠ ⟨#[42]⟩) : applyO o a b = divO o a b := by
  unfold applyO divO
  simp only
  rw [if_neg h0, if_neg h1, if_neg h2, if_neg h3, if_neg h4, if_neg h5, if_neg h6, if_neg h7, if_neg h8, if_neg h9]
set_option maxRecDepth 100000 in
set_option maxHeartbeats 4000000 in
theorem apply_any (o : ByteArray) (a b : Nat) (ha : a ≤ mostN) (hb : b ≤ mostN) (w : World) :
    Calls Tryz.prog 45 #[.string o, .int .u64 a, .int .u64 b] w fun e w' => AppP (applyO o a b) e ∧ Bw w w' := by
  have HA := hid ha
  have HB := hid hb
  rw [mostN_val] at ha hb
  by_cases h0 : o = ⟨#[61, 61]⟩
  · by_cases c : a = b
    · have P := hid (show applyO o a b = some 1 from by unfold applyO; simp only; rw [if_pos h0, if_pos c])
      subst c
      subst h0
      go_enter Tryz.func45, Tryz.ntmps45
      go_wp2_with fail
      refine (truth_any _ _).mono ?_
      rintro e w2 ⟨rfl, rfl⟩
      go_wp2
      go_returns
      exact ⟨Or.inl ⟨_, P.out, by first | rfl | simp⟩, Bw.refl _⟩
    · have P := hid (show applyO o a b = some 0 from by unfold applyO; simp only; rw [if_pos h0, if_neg c])
      have tc : (((a : Nat) : Int) == (b : Nat)) = false := by rw [beq_eq_false_iff_ne]; omega
      subst h0
      go_enter Tryz.func45, Tryz.ntmps45
      go_wp2_with fail
      refine (truth_any _ _).mono ?_
      rintro e w2 ⟨rfl, rfl⟩
      go_wp2
      go_returns
      exact ⟨Or.inl ⟨_, P.out, by first | rfl | simp⟩, Bw.refl _⟩
  have t0 := str_nl0 h0
  by_cases h1 : o = ⟨#[33, 61]⟩
  · by_cases c : a = b
    · have P := hid (show applyO o a b = some 0 from by unfold applyO; simp only; rw [if_neg h0, if_pos h1, if_pos c])
      subst c
      subst h1
      go_enter Tryz.func45, Tryz.ntmps45
      go_wp2_with fail
      refine (truth_any _ _).mono ?_
      rintro e w2 ⟨rfl, rfl⟩
      go_wp2
      go_returns
      exact ⟨Or.inl ⟨_, P.out, by first | rfl | simp⟩, Bw.refl _⟩
    · have P := hid (show applyO o a b = some 1 from by unfold applyO; simp only; rw [if_neg h0, if_pos h1, if_neg c])
      have tc : (((a : Nat) : Int) == (b : Nat)) = false := by rw [beq_eq_false_iff_ne]; omega
      have tc2 : (((a : Nat) : Int) != (b : Nat)) = true := by rw [bne_iff_ne]; omega
      subst h1
      go_enter Tryz.func45, Tryz.ntmps45
      go_wp2_with fail
      refine (truth_any _ _).mono ?_
      rintro e w2 ⟨rfl, rfl⟩
      go_wp2
      go_returns
      exact ⟨Or.inl ⟨_, P.out, by first | rfl | simp⟩, Bw.refl _⟩
  have t1 := str_nl0 h1
  by_cases h2 : o = ⟨#[60]⟩
  · by_cases c : a < b
    · have P := hid (show applyO o a b = some 1 from by unfold applyO; simp only; rw [if_neg h0, if_neg h1, if_pos h2, if_pos c])
      have tc : ((a : Nat) : Int) < (b : Nat) := by omega
      subst h2
      go_enter Tryz.func45, Tryz.ntmps45
      go_wp2_with fail
      refine (truth_any _ _).mono ?_
      rintro e w2 ⟨rfl, rfl⟩
      go_wp2
      go_returns
      exact ⟨Or.inl ⟨_, P.out, by first | rfl | simp⟩, Bw.refl _⟩
    · have P := hid (show applyO o a b = some 0 from by unfold applyO; simp only; rw [if_neg h0, if_neg h1, if_pos h2, if_neg c])
      have tc : ¬ ((a : Nat) : Int) < (b : Nat) := by omega
      subst h2
      go_enter Tryz.func45, Tryz.ntmps45
      go_wp2_with fail
      refine (truth_any _ _).mono ?_
      rintro e w2 ⟨rfl, rfl⟩
      go_wp2
      go_returns
      exact ⟨Or.inl ⟨_, P.out, by first | rfl | simp⟩, Bw.refl _⟩
  have t2 := str_nl0 h2
  by_cases h3 : o = ⟨#[124]⟩
  · by_cases c : a ||| b ≤ mostN
    · have P := hid (show applyO o a b = some (a ||| b) from by unfold applyO; simp only; rw [if_neg h0, if_neg h1, if_neg h2, if_pos h3, if_pos c])
      rw [mostN_val] at c
      have kb := bits_or_u64_nat a b (by omega) (by omega)
      have k1 : ((a ||| b : Nat) : Int) ≤ 4611686018427387904 := by omega
      subst h3
      go_enter Tryz.func45, Tryz.ntmps45
      go_wp2
      go_returns
      exact ⟨Or.inl ⟨_, P.out, by first | rfl | go_num⟩, Bw.refl _⟩
    · have P := hid (show applyO o a b = none from by unfold applyO; simp only; rw [if_neg h0, if_neg h1, if_neg h2, if_pos h3, if_neg c])
      rw [mostN_val] at c
      have kb := bits_or_u64_nat a b (by omega) (by omega)
      have k1 : ¬ ((a ||| b : Nat) : Int) ≤ 4611686018427387904 := by omega
      subst h3
      go_enter Tryz.func45, Tryz.ntmps45
      go_wp2
      go_returns
      exact ⟨Or.inr ⟨P.out, _, rfl⟩, Bw.refl _⟩
  have t3 := str_nl0 h3
  by_cases h4 : o = ⟨#[38]⟩
  · have P := hid (show applyO o a b = some (a &&& b) from by unfold applyO; simp only; rw [if_neg h0, if_neg h1, if_neg h2, if_neg h3, if_pos h4])
    have kb := bits_and_u64_nat a b (by omega) (by omega)
    subst h4
    go_enter Tryz.func45, Tryz.ntmps45
    go_wp2
    go_returns
    exact ⟨Or.inl ⟨_, P.out, by first | rfl | go_num⟩, Bw.refl _⟩
  have t4 := str_nl0 h4
  by_cases h5 : o = ⟨#[60, 60]⟩
  · by_cases c : a = 0
    · have P := hid (show applyO o a b = some 0 from by unfold applyO; simp only; rw [if_neg h0, if_neg h1, if_neg h2, if_neg h3, if_neg h4, if_pos h5, if_pos c])
      have kq : (0 : Int) ≤ 4611686018427387904 / 2 ^ (min b 64) := Int.ediv_nonneg (by omega) (Int.le_of_lt (Int.pow_pos (by decide)))
      subst c
      subst h5
      go_enter Tryz.func45, Tryz.ntmps45
      go_wp2
      go_returns
      exact ⟨Or.inl ⟨_, P.out, by first | rfl | go_num⟩, Bw.refl _⟩
    · have c0 := c
      clear c
      by_cases c : 62 < b
      · have P := hid (show applyO o a b = none from by unfold applyO; simp only; rw [if_neg h0, if_neg h1, if_neg h2, if_neg h3, if_neg h4, if_pos h5, if_neg c0, if_pos c])
        have kq := shl_far c0 c
        subst h5
        go_enter Tryz.func45, Tryz.ntmps45
        go_wp2
        go_returns
        exact ⟨Or.inr ⟨P.out, _, rfl⟩, Bw.refl _⟩
      · have c1 := c
        clear c
        by_cases c : a * 2 ^ b ≤ mostN
        · have P := hid (show applyO o a b = some (a * 2 ^ b) from by unfold applyO; simp only; rw [if_neg h0, if_neg h1, if_neg h2, if_neg h3, if_neg h4, if_pos h5, if_neg c0, if_neg c1, if_pos c])
          rw [mostN_val] at c
          have b62 : b ≤ 62 := by omega
          obtain ⟨kq, kw⟩ := shl_yes b62 c
          have HV := hid (show (a : Int) * 2 ^ b = ((a * 2 ^ b : Nat) : Int) from by simp)
          subst h5
          go_enter Tryz.func45, Tryz.ntmps45
          go_wp2
          go_returns
          exact ⟨Or.inl ⟨_, P.out, by rw [HV.out]; rfl⟩, Bw.refl _⟩
        · have P := hid (show applyO o a b = none from by unfold applyO; simp only; rw [if_neg h0, if_neg h1, if_neg h2, if_neg h3, if_neg h4, if_pos h5, if_neg c0, if_neg c1, if_neg c])
          rw [mostN_val] at c
          have b62 : b ≤ 62 := by omega
          have kq := shl_no b62 c
          have HQ := hid (decide_eq_false kq)
          subst h5
          go_enter Tryz.func45, Tryz.ntmps45
          go_wp2
          go_returns
          exact ⟨Or.inr ⟨P.out, _, by first | rfl | (rw [HQ.out]; rfl)⟩, Bw.refl _⟩
  have t5 := str_nl0 h5
  by_cases h6 : o = ⟨#[62, 62]⟩
  · have P := hid (show applyO o a b = some (if b < 63 then a / 2 ^ b else 0) from by unfold applyO; simp only; rw [if_neg h0, if_neg h1, if_neg h2, if_neg h3, if_neg h4, if_neg h5, if_pos h6])
    have HV := hid (shr_is ha b)
    subst h6
    go_enter Tryz.func45, Tryz.ntmps45
    go_wp2
    go_returns
    exact ⟨Or.inl ⟨_, P.out, by rw [HV.out]; rfl⟩, Bw.refl _⟩
  have t6 := str_nl0 h6
  by_cases h7 : o = ⟨#[43]⟩
  · by_cases c : a + b ≤ mostN
    · have P := hid (show applyO o a b = some (a + b) from by unfold applyO; simp only; rw [if_neg h0, if_neg h1, if_neg h2, if_neg h3, if_neg h4, if_neg h5, if_neg h6, if_pos h7, if_pos c])
      rw [mostN_val] at c
      have k1 : ((a : Nat) : Int) + (b : Nat) ≤ 4611686018427387904 := by omega
      subst h7
      go_enter Tryz.func45, Tryz.ntmps45
      go_wp2
      go_returns
      exact ⟨Or.inl ⟨_, P.out, by first | rfl | go_num⟩, Bw.refl _⟩
    · have P := hid (show applyO o a b = none from by unfold applyO; simp only; rw [if_neg h0, if_neg h1, if_neg h2, if_neg h3, if_neg h4, if_neg h5, if_neg h6, if_pos h7, if_neg c])
      rw [mostN_val] at c
      have k1 : ¬ ((a : Nat) : Int) + (b : Nat) ≤ 4611686018427387904 := by omega
      subst h7
      go_enter Tryz.func45, Tryz.ntmps45
      go_wp2
      go_returns
      exact ⟨Or.inr ⟨P.out, _, rfl⟩, Bw.refl _⟩
  have t7 := str_nl0 h7
  by_cases h8 : o = ⟨#[45]⟩
  · by_cases c : b ≤ a
    · have P := hid (show applyO o a b = some (a - b) from by unfold applyO; simp only; rw [if_neg h0, if_neg h1, if_neg h2, if_neg h3, if_neg h4, if_neg h5, if_neg h6, if_neg h7, if_pos h8, if_pos c])
      have k1 : ((b : Nat) : Int) ≤ (a : Nat) := by omega
      subst h8
      go_enter Tryz.func45, Tryz.ntmps45
      go_wp2
      go_returns
      exact ⟨Or.inl ⟨_, P.out, by first | rfl | go_num⟩, Bw.refl _⟩
    · have P := hid (show applyO o a b = none from by unfold applyO; simp only; rw [if_neg h0, if_neg h1, if_neg h2, if_neg h3, if_neg h4, if_neg h5, if_neg h6, if_neg h7, if_pos h8, if_neg c])
      have k1 : ¬ ((b : Nat) : Int) ≤ (a : Nat) := by omega
      subst h8
      go_enter Tryz.func45, Tryz.ntmps45
      go_wp2
      go_returns
      exact ⟨Or.inr ⟨P.out, _, rfl⟩, Bw.refl _⟩
  have t8 := str_nl0 h8
  by_cases h9 : o = ⟨#[42]⟩
  · by_cases c : a = 0
    · have P := hid (show applyO o a b = some (a * b) from by unfold applyO; simp only; rw [if_neg h0, if_neg h1, if_neg h2, if_neg h3, if_neg h4, if_neg h5, if_neg h6, if_neg h7, if_neg h8, if_pos h9, if_pos (show a * b ≤ mostN from by rw [c, Nat.zero_mul]; decide)])
      have P := hid (show applyO o a b = some 0 from P.out.trans (by rw [c, Nat.zero_mul]))
      subst c
      subst h9
      go_enter Tryz.func45, Tryz.ntmps45
      go_wp2
      go_region
      go_wp2
      go_returns
      exact ⟨Or.inl ⟨_, P.out, by first | rfl | go_num⟩, by unfold Bw; go_grown⟩
    · have c0 := c
      clear c
      by_cases c : a * b ≤ mostN
      · have P := hid (show applyO o a b = some (a * b) from by unfold applyO; simp only; rw [if_neg h0, if_neg h1, if_neg h2, if_neg h3, if_neg h4, if_neg h5, if_neg h6, if_neg h7, if_neg h8, if_pos h9, if_pos c])
        rw [mostN_val] at c
        obtain ⟨kq, kw⟩ := mul_yes c0 c
        have HV := hid kw
        have t0 : (((a : Nat) : Int) == 0) = false := by rw [beq_eq_false_iff_ne]; omega
        have n0 : ((a : Nat) : Int) ≠ 0 := by omega
        subst h9
        go_enter Tryz.func45, Tryz.ntmps45
        go_wp2
        go_region
        go_wp2
        go_returns
        exact ⟨Or.inl ⟨_, P.out, by first | rfl | (rw [HV.out]; rfl) | (rw [Int.natCast_mul]; rfl)⟩, by unfold Bw; go_grown⟩
      · have P := hid (show applyO o a b = none from by unfold applyO; simp only; rw [if_neg h0, if_neg h1, if_neg h2, if_neg h3, if_neg h4, if_neg h5, if_neg h6, if_neg h7, if_neg h8, if_pos h9, if_neg c])
        rw [mostN_val] at c
        have kq := mul_no c0 c
        have HQ := hid (decide_eq_false kq)
        have t0 : (((a : Nat) : Int) == 0) = false := by rw [beq_eq_false_iff_ne]; omega
        have n0 : ((a : Nat) : Int) ≠ 0 := by omega
        subst h9
        go_enter Tryz.func45, Tryz.ntmps45
        go_wp2
        go_region
        go_wp2
        go_returns
        exact ⟨Or.inr ⟨P.out, _, by first | rfl | (rw [HQ.out]; rfl)⟩, by unfold Bw; go_grown⟩
  have t9 := str_nl0 h9
  have P := hid (app_div (a := a) (b := b) h0 h1 h2 h3 h4 h5 h6 h7 h8 h9)
  clear h0 h1 h2 h3 h4 h5 h6 h7 h8 h9
  go_enter Tryz.func45, Tryz.ntmps45
  go_wp2_with fail
  refine (divide_any o a b HA.out HB.out _).mono ?_
  rintro e w2 ⟨hd, rfl⟩
  rw [← P.out] at hd
  rcases hd with ⟨n, hn, rfl⟩ | ⟨hn, m, rfl⟩
  · go_wp2
    go_returns
    exact ⟨Or.inl ⟨n, hn, rfl⟩, Bw.refl _⟩
  · go_wp2
    go_returns
    exact ⟨Or.inr ⟨hn, m, rfl⟩, Bw.refl _⟩
end Go.Proofs.YtlilmidffcmkjaaGreatDoor
