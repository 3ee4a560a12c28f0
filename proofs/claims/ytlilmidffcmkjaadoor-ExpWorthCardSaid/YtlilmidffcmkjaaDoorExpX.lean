/- What an operator makes of two numbers, as the document says it (contract of the function; made by genExpX.py). -/
import Derived.Test.YtlilmidffcmkjaaDoorExpW
import Derived.Test.YtlilmidffcmkjaaDoorExpJ
namespace Go.Proofs.YtlilmidffcmkjaaDoor
open Go.RowKit
set_option linter.unusedVariables false
set_option linter.unusedSimpArgs false
theorem rtruth_any (b : Bool) (w : World) : Calls Tryd.prog 47 #[.bool b] w fun e w' => e = .returned (.int .u64 ((if b then 1 else 0 : Nat) : Nat)) ∧ w' = w := by
  go_enter Tryd.func47, Tryd.ntmps47
  cases b with
  | true =>
    go_wp2
    go_returns
    exact ⟨rfl, rfl⟩
  | false =>
    go_wp2
    go_returns
    exact ⟨rfl, rfl⟩
def appV : Option Nat → Nat × Int
  | some n => (n, 0)
  | none => (0, 3)
set_option maxRecDepth 100000 in
set_option maxHeartbeats 8000000 in
theorem rapply_any (o : ByteArray) (a b : Nat) (ha : a ≤ mostN) (hb : b ≤ mostN) (hlv : 0 < lvlOf o) (w : World) :
    Calls Tryd.prog 38 #[.string o, .int .u64 a, .int .u64 b] w fun e w' => e = .returned (.tuple #[.int .u64 ((appV (applyO o a b)).1 : Nat), .int .i64 (appV (applyO o a b)).2]) ∧ w' = w := by
  have HA := hid ha
  have HB := hid hb
  have HLV := hid hlv
  clear hlv
  rw [mostN_val] at ha hb
  by_cases h0 : o = ⟨#[61, 61]⟩
  · by_cases c : a = b
    · have P := hid (show applyO o a b = some 1 from by unfold applyO; simp only; rw [if_pos h0, if_pos c])
      subst c
      subst h0
      go_enter Tryd.func38, Tryd.ntmps38
      go_wp2_with fail
      refine (rtruth_any _ _).mono ?_
      rintro e w2 ⟨rfl, rfl⟩
      go_wp2
      go_returns
      exact ⟨by rw [P.out]; first | rfl | (show _ = Ending.returned (.tuple #[.int .u64 (0 : Nat), .int .i64 0]); go_num), by first | rfl | trivial⟩
    · have P := hid (show applyO o a b = some 0 from by unfold applyO; simp only; rw [if_pos h0, if_neg c])
      have tc : (((a : Nat) : Int) == (b : Nat)) = false := by rw [beq_eq_false_iff_ne]; omega
      subst h0
      go_enter Tryd.func38, Tryd.ntmps38
      go_wp2_with fail
      refine (rtruth_any _ _).mono ?_
      rintro e w2 ⟨rfl, rfl⟩
      go_wp2
      go_returns
      exact ⟨by rw [P.out]; first | rfl | (show _ = Ending.returned (.tuple #[.int .u64 (0 : Nat), .int .i64 0]); go_num), by first | rfl | trivial⟩
  have t0 := str_nl0 h0
  by_cases h1 : o = ⟨#[33, 61]⟩
  · by_cases c : a = b
    · have P := hid (show applyO o a b = some 0 from by unfold applyO; simp only; rw [if_neg h0, if_pos h1, if_pos c])
      subst c
      subst h1
      go_enter Tryd.func38, Tryd.ntmps38
      go_wp2_with fail
      refine (rtruth_any _ _).mono ?_
      rintro e w2 ⟨rfl, rfl⟩
      go_wp2
      go_returns
      exact ⟨by rw [P.out]; first | rfl | (show _ = Ending.returned (.tuple #[.int .u64 (0 : Nat), .int .i64 0]); go_num), by first | rfl | trivial⟩
    · have P := hid (show applyO o a b = some 1 from by unfold applyO; simp only; rw [if_neg h0, if_pos h1, if_neg c])
      have tc : (((a : Nat) : Int) == (b : Nat)) = false := by rw [beq_eq_false_iff_ne]; omega
      have tc2 : (((a : Nat) : Int) != (b : Nat)) = true := by rw [bne_iff_ne]; omega
      subst h1
      go_enter Tryd.func38, Tryd.ntmps38
      go_wp2_with fail
      refine (rtruth_any _ _).mono ?_
      rintro e w2 ⟨rfl, rfl⟩
      go_wp2
      go_returns
      exact ⟨by rw [P.out]; first | rfl | (show _ = Ending.returned (.tuple #[.int .u64 (0 : Nat), .int .i64 0]); go_num), by first | rfl | trivial⟩
  have t1 := str_nl0 h1
  by_cases h2 : o = ⟨#[60]⟩
  · by_cases c : a < b
    · have P := hid (show applyO o a b = some 1 from by unfold applyO; simp only; rw [if_neg h0, if_neg h1, if_pos h2, if_pos c])
      have tc : ((a : Nat) : Int) < (b : Nat) := by omega
      subst h2
      go_enter Tryd.func38, Tryd.ntmps38
      go_wp2_with fail
      refine (rtruth_any _ _).mono ?_
      rintro e w2 ⟨rfl, rfl⟩
      go_wp2
      go_returns
      exact ⟨by rw [P.out]; first | rfl | (show _ = Ending.returned (.tuple #[.int .u64 (0 : Nat), .int .i64 0]); go_num), by first | rfl | trivial⟩
    · have P := hid (show applyO o a b = some 0 from by unfold applyO; simp only; rw [if_neg h0, if_neg h1, if_pos h2, if_neg c])
      have tc : ¬ ((a : Nat) : Int) < (b : Nat) := by omega
      subst h2
      go_enter Tryd.func38, Tryd.ntmps38
      go_wp2_with fail
      refine (rtruth_any _ _).mono ?_
      rintro e w2 ⟨rfl, rfl⟩
      go_wp2
      go_returns
      exact ⟨by rw [P.out]; first | rfl | (show _ = Ending.returned (.tuple #[.int .u64 (0 : Nat), .int .i64 0]); go_num), by first | rfl | trivial⟩
  have t2 := str_nl0 h2
  by_cases h3 : o = ⟨#[124]⟩
  · by_cases c : a ||| b ≤ mostN
    · have P := hid (show applyO o a b = some (a ||| b) from by unfold applyO; simp only; rw [if_neg h0, if_neg h1, if_neg h2, if_pos h3, if_pos c])
      rw [mostN_val] at c
      have kb := bits_or_u64_nat a b (by omega) (by omega)
      have k1 : ¬ (4611686018427387904 : Int) < ((a ||| b : Nat) : Int) := by omega
      subst h3
      go_enter Tryd.func38, Tryd.ntmps38
      go_wp2
      go_returns
      exact ⟨by rw [P.out]; first | rfl | (show _ = Ending.returned (.tuple #[.int .u64 (a ||| b : Nat), .int .i64 0]); go_num), by first | rfl | trivial⟩
    · have P := hid (show applyO o a b = none from by unfold applyO; simp only; rw [if_neg h0, if_neg h1, if_neg h2, if_pos h3, if_neg c])
      rw [mostN_val] at c
      have kb := bits_or_u64_nat a b (by omega) (by omega)
      have k1 : (4611686018427387904 : Int) < ((a ||| b : Nat) : Int) := by omega
      subst h3
      go_enter Tryd.func38, Tryd.ntmps38
      go_wp2
      go_returns
      exact ⟨by rw [P.out]; rfl, by first | rfl | trivial⟩
  have t3 := str_nl0 h3
  by_cases h4 : o = ⟨#[38]⟩
  · have P := hid (show applyO o a b = some (a &&& b) from by unfold applyO; simp only; rw [if_neg h0, if_neg h1, if_neg h2, if_neg h3, if_pos h4])
    have kb := bits_and_u64_nat a b (by omega) (by omega)
    have hl := land_le (b := b) HA.out
    rw [mostN_val] at hl
    have k1 : ¬ (4611686018427387904 : Int) < ((a &&& b : Nat) : Int) := by omega
    subst h4
    go_enter Tryd.func38, Tryd.ntmps38
    go_wp2
    go_returns
    exact ⟨by rw [P.out]; first | rfl | (show _ = Ending.returned (.tuple #[.int .u64 (a &&& b : Nat), .int .i64 0]); go_num), by first | rfl | trivial⟩
  have t4 := str_nl0 h4
  by_cases h5 : o = ⟨#[60, 60]⟩
  · by_cases c : a = 0
    · have P := hid (show applyO o a b = some 0 from by unfold applyO; simp only; rw [if_neg h0, if_neg h1, if_neg h2, if_neg h3, if_neg h4, if_pos h5, if_pos c])
      subst c
      subst h5
      go_enter Tryd.func38, Tryd.ntmps38
      go_wp2
      go_returns
      exact ⟨by rw [P.out]; first | rfl | (show _ = Ending.returned (.tuple #[.int .u64 (0 : Nat), .int .i64 0]); go_num), by first | rfl | trivial⟩
    · have c0 := c
      clear c
      by_cases c : 62 < b
      · have P := hid (show applyO o a b = none from by unfold applyO; simp only; rw [if_neg h0, if_neg h1, if_neg h2, if_neg h3, if_neg h4, if_pos h5, if_neg c0, if_pos c])
        have p0 : (0 : Int) < (a : Nat) := by omega
        have kq := shl_far c0 c
        have kq2 : (62 : Int) < (b : Nat) := by omega
        subst h5
        go_enter Tryd.func38, Tryd.ntmps38
        go_wp2
        go_returns
        exact ⟨by rw [P.out]; rfl, by first | rfl | trivial⟩
      · have c1 := c
        clear c
        by_cases c : a * 2 ^ b ≤ mostN
        · have P := hid (show applyO o a b = some (a * 2 ^ b) from by unfold applyO; simp only; rw [if_neg h0, if_neg h1, if_neg h2, if_neg h3, if_neg h4, if_pos h5, if_neg c0, if_neg c1, if_pos c])
          have p0 : (0 : Int) < (a : Nat) := by omega
          rw [mostN_val] at c
          have b62 : b ≤ 62 := by omega
          have kq2 : ¬ (62 : Int) < (b : Nat) := by omega
          obtain ⟨kq, kw⟩ := shl_yes b62 c
          have kq3 : ¬ 4611686018427387904 / 2 ^ b < (a : Int) := Int.not_lt.2 kq
          have HV := hid (show (a : Int) * 2 ^ b = ((a * 2 ^ b : Nat) : Int) from by simp)
          have kz : ¬ (4611686018427387904 : Int) < (a : Int) * 2 ^ b := by rw [HV.out]; omega
          subst h5
          go_enter Tryd.func38, Tryd.ntmps38
          go_wp2
          go_returns
          exact ⟨by rw [P.out]; unfold appV; simp only; first | rfl | (rw [HV.out]; rfl) | (rw [← HV.out]; rfl), by first | rfl | trivial⟩
        · have P := hid (show applyO o a b = none from by unfold applyO; simp only; rw [if_neg h0, if_neg h1, if_neg h2, if_neg h3, if_neg h4, if_pos h5, if_neg c0, if_neg c1, if_neg c])
          have p0 : (0 : Int) < (a : Nat) := by omega
          rw [mostN_val] at c
          have b62 : b ≤ 62 := by omega
          have kq2 : ¬ (62 : Int) < (b : Nat) := by omega
          have kq := shl_no b62 c
          have kq3 : 4611686018427387904 / 2 ^ b < (a : Int) := Int.not_le.1 kq
          subst h5
          go_enter Tryd.func38, Tryd.ntmps38
          go_wp2
          go_returns
          exact ⟨by rw [P.out]; rfl, by first | rfl | trivial⟩
  have t5 := str_nl0 h5
  by_cases h6 : o = ⟨#[62, 62]⟩
  · by_cases c : b < 63
    · have P := hid (show applyO o a b = some (a / 2 ^ b) from by unfold applyO; simp only; rw [if_neg h0, if_neg h1, if_neg h2, if_neg h3, if_neg h4, if_neg h5, if_pos h6, if_pos c])
      have b62 : b ≤ 62 := by omega
      have kq2 : ((b : Nat) : Int) < 63 := by omega
      have HV := hid (show (a : Int) / 2 ^ b = ((a / 2 ^ b : Nat) : Int) from by simp)
      have hd := Nat.div_le_self a (2 ^ b)
      have kz : ¬ (4611686018427387904 : Int) < (a : Int) / 2 ^ b := by rw [HV.out]; omega
      clear hd
      subst h6
      go_enter Tryd.func38, Tryd.ntmps38
      go_wp2
      go_returns
      exact ⟨by rw [P.out]; unfold appV; simp only; first | rfl | (rw [HV.out]; rfl) | (rw [← HV.out]; rfl), by first | rfl | trivial⟩
    · have P := hid (show applyO o a b = some 0 from by unfold applyO; simp only; rw [if_neg h0, if_neg h1, if_neg h2, if_neg h3, if_neg h4, if_neg h5, if_pos h6, if_neg c])
      have kq2 : ¬ ((b : Nat) : Int) < 63 := by omega
      subst h6
      go_enter Tryd.func38, Tryd.ntmps38
      go_wp2
      go_returns
      exact ⟨by rw [P.out]; first | rfl | (show _ = Ending.returned (.tuple #[.int .u64 (0 : Nat), .int .i64 0]); go_num), by first | rfl | trivial⟩
  have t6 := str_nl0 h6
  by_cases h7 : o = ⟨#[43]⟩
  · by_cases c : a + b ≤ mostN
    · have P := hid (show applyO o a b = some (a + b) from by unfold applyO; simp only; rw [if_neg h0, if_neg h1, if_neg h2, if_neg h3, if_neg h4, if_neg h5, if_neg h6, if_pos h7, if_pos c])
      rw [mostN_val] at c
      have k1 : ¬ (4611686018427387904 : Int) < ((a : Nat) : Int) + (b : Nat) := by omega
      subst h7
      go_enter Tryd.func38, Tryd.ntmps38
      go_wp2
      go_returns
      exact ⟨by rw [P.out]; first | rfl | (show _ = Ending.returned (.tuple #[.int .u64 (a + b : Nat), .int .i64 0]); go_num), by first | rfl | trivial⟩
    · have P := hid (show applyO o a b = none from by unfold applyO; simp only; rw [if_neg h0, if_neg h1, if_neg h2, if_neg h3, if_neg h4, if_neg h5, if_neg h6, if_pos h7, if_neg c])
      rw [mostN_val] at c
      have k1 : (4611686018427387904 : Int) < ((a : Nat) : Int) + (b : Nat) := by omega
      subst h7
      go_enter Tryd.func38, Tryd.ntmps38
      go_wp2
      go_returns
      exact ⟨by rw [P.out]; rfl, by first | rfl | trivial⟩
  have t7 := str_nl0 h7
  by_cases h8 : o = ⟨#[45]⟩
  · by_cases c : b ≤ a
    · have P := hid (show applyO o a b = some (a - b) from by unfold applyO; simp only; rw [if_neg h0, if_neg h1, if_neg h2, if_neg h3, if_neg h4, if_neg h5, if_neg h6, if_neg h7, if_pos h8, if_pos c])
      have k1 : ¬ ((a : Nat) : Int) < (b : Nat) := by omega
      have k2 : ¬ (4611686018427387904 : Int) < ((a : Nat) : Int) - (b : Nat) := by omega
      subst h8
      go_enter Tryd.func38, Tryd.ntmps38
      go_wp2
      go_returns
      exact ⟨by rw [P.out]; first | rfl | (show _ = Ending.returned (.tuple #[.int .u64 (a - b : Nat), .int .i64 0]); go_num), by first | rfl | trivial⟩
    · have P := hid (show applyO o a b = none from by unfold applyO; simp only; rw [if_neg h0, if_neg h1, if_neg h2, if_neg h3, if_neg h4, if_neg h5, if_neg h6, if_neg h7, if_pos h8, if_neg c])
      have k1 : ((a : Nat) : Int) < (b : Nat) := by omega
      subst h8
      go_enter Tryd.func38, Tryd.ntmps38
      go_wp2
      go_returns
      exact ⟨by rw [P.out]; rfl, by first | rfl | trivial⟩
  have t8 := str_nl0 h8
  by_cases h9 : o = ⟨#[42]⟩
  · by_cases c : b = 0
    · have P := hid (show applyO o a b = some (a * b) from by unfold applyO; simp only; rw [if_neg h0, if_neg h1, if_neg h2, if_neg h3, if_neg h4, if_neg h5, if_neg h6, if_neg h7, if_neg h8, if_pos h9, if_pos (show a * b ≤ mostN from by rw [c, Nat.mul_zero]; decide)])
      have P := hid (show applyO o a b = some 0 from P.out.trans (by rw [c, Nat.mul_zero]))
      subst c
      subst h9
      go_enter Tryd.func38, Tryd.ntmps38
      go_wp2
      go_returns
      exact ⟨by rw [P.out]; first | rfl | (show _ = Ending.returned (.tuple #[.int .u64 (0 : Nat), .int .i64 0]); go_num), by first | rfl | trivial⟩
    · have c0 := c
      clear c
      by_cases c : a * b ≤ mostN
      · have P := hid (show applyO o a b = some (a * b) from by unfold applyO; simp only; rw [if_neg h0, if_neg h1, if_neg h2, if_neg h3, if_neg h4, if_neg h5, if_neg h6, if_neg h7, if_neg h8, if_pos h9, if_pos c])
        rw [mostN_val] at c
        obtain ⟨kq, kw⟩ := mul_yes c0 (show b * a ≤ 4611686018427387904 by rw [Nat.mul_comm]; exact c)
        have kq3 : ¬ 4611686018427387904 / (b : Int) < (a : Int) := Int.not_lt.2 kq
        have HV := hid (show (a : Int) * (b : Int) = ((a * b : Nat) : Int) from by simp)
        have kz : ¬ (4611686018427387904 : Int) < (a : Int) * (b : Int) := by rw [HV.out]; omega
        have kw2 : IntKind.u64.wrap ((a : Int) * (b : Int)) = (a : Int) * (b : Int) := by rw [HV.out]; exact IntWalk.u64_in _ (by omega)
        clear kw
        have p0 : (0 : Int) < (b : Nat) := by omega
        have nb : ((b : Nat) : Int) ≠ 0 := by omega
        subst h9
        go_enter Tryd.func38, Tryd.ntmps38
        go_wp2
        go_returns
        exact ⟨by rw [P.out]; unfold appV; simp only; first | rfl | (rw [HV.out]; rfl) | (rw [← HV.out]; rfl), by first | rfl | trivial⟩
      · have P := hid (show applyO o a b = none from by unfold applyO; simp only; rw [if_neg h0, if_neg h1, if_neg h2, if_neg h3, if_neg h4, if_neg h5, if_neg h6, if_neg h7, if_neg h8, if_pos h9, if_neg c])
        rw [mostN_val] at c
        have kq := mul_no c0 (show ¬ b * a ≤ 4611686018427387904 by rw [Nat.mul_comm]; exact c)
        have kq3 : 4611686018427387904 / (b : Int) < (a : Int) := Int.not_le.1 kq
        have p0 : (0 : Int) < (b : Nat) := by omega
        have nb : ((b : Nat) : Int) ≠ 0 := by omega
        subst h9
        go_enter Tryd.func38, Tryd.ntmps38
        go_wp2
        go_returns
        exact ⟨by rw [P.out]; rfl, by first | rfl | trivial⟩
  have t9 := str_nl0 h9
  have P0 := hid (app_div (a := a) (b := b) h0 h1 h2 h3 h4 h5 h6 h7 h8 h9)
  by_cases c : b = 0
  · have P := hid (show applyO o a b = none from P0.out.trans (by unfold divO; rw [if_pos c]))
    clear h0 h1 h2 h3 h4 h5 h6 h7 h8 h9
    subst c
    go_enter Tryd.func38, Tryd.ntmps38
    go_wp2
    go_returns
    exact ⟨by rw [P.out]; rfl, by first | rfl | trivial⟩
  have tb : (((b : Nat) : Int) == 0) = false := by rw [beq_eq_false_iff_ne]; omega
  have nb : ((b : Nat) : Int) ≠ 0 := by omega
  have q0 : (0 : Int) ≤ (a : Int) / (b : Int) := Int.ediv_nonneg (by omega) (by omega)
  have q1 : (a : Int) / (b : Int) ≤ 4611686018427387904 := by
    have h1 := Nat.div_le_self a b
    have : ((a / b : Nat) : Int) ≤ 4611686018427387904 := by omega
    exact this
  have q2 : ¬ (4611686018427387904 : Int) < (a : Int) / (b : Int) := by omega
  have q3 : ¬ (4611686018427387904 : Int) < (a : Int) % (b : Int) := by
    have h1 := Nat.mod_le a b
    have : ((a % b : Nat) : Int) ≤ 4611686018427387904 := by omega
    exact Int.not_lt.2 this
  by_cases h10 : o = ⟨#[47]⟩
  · have P := hid (show applyO o a b = some (a / b) from P0.out.trans (by unfold divO; rw [if_neg c, if_pos h10]))
    clear P0 h0 h1 h2 h3 h4 h5 h6 h7 h8 h9
    subst h10
    go_enter Tryd.func38, Tryd.ntmps38
    go_wp2
    go_returns
    exact ⟨by rw [P.out]; first | rfl | (show _ = Ending.returned (.tuple #[.int .u64 (a / b : Nat), .int .i64 0]); go_num), by first | rfl | trivial⟩
  by_cases h11 : o = ⟨#[37]⟩
  · have P := hid (show applyO o a b = some (a % b) from P0.out.trans (by unfold divO; rw [if_neg c, if_neg h10]))
    clear P0 h10 h0 h1 h2 h3 h4 h5 h6 h7 h8 h9
    subst h11
    go_enter Tryd.func38, Tryd.ntmps38
    go_wp2
    go_returns
    exact ⟨by rw [P.out]; first | rfl | (show _ = Ending.returned (.tuple #[.int .u64 (a % b : Nat), .int .i64 0]); go_num), by first | rfl | trivial⟩
  exfalso
  have hz := lvl_none (s := o) (fun i hi => by
    match i, hi with
    | 0, _ => exact h0
    | 1, _ => exact h1
    | 2, _ => exact h2
    | 3, _ => exact h3
    | 4, _ => exact h4
    | 5, _ => exact h5
    | 6, _ => exact h6
    | 7, _ => exact h7
    | 8, _ => exact h8
    | 9, _ => exact h9
    | 10, _ => exact h10
    | 11, _ => exact h11
    | k + 12, h => omega)
  have := HLV.out
  omega
end Go.Proofs.YtlilmidffcmkjaaDoor
