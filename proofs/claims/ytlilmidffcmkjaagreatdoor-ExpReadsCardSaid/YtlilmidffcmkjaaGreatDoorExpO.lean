/- What an operator makes of two numbers (contracts of the functions). -/
import Derived.Test.YtlilmidffcmkjaaGreatDoorExpF
import Derived.Test.YtlilmidffcmkjaaGreatDoorPlnE
namespace Go.Proofs.YtlilmidffcmkjaaGreatDoor
open Go.RowKit
set_option linter.unusedVariables false
set_option linter.unusedSimpArgs false
theorem str_nl0 {a : ByteArray} {x : Array UInt8} (h : a ≠ ⟨x⟩) : (a.toList == x.toList) = false := by
  have := str_ne (a := a) (b := ⟨x⟩) h
  rwa [toList_data ⟨x⟩] at this
theorem truth_any (b : Bool) (w : World) : Calls Tryz.prog 54 #[.bool b] w fun e w' => e = .returned (.int .u64 ((if b then 1 else 0 : Nat) : Nat)) ∧ w' = w := by
  go_enter Tryz.func54, Tryz.ntmps54
  cases b with
  | true =>
    go_wp2
    go_returns
    exact ⟨rfl, rfl⟩
  | false =>
    go_wp2
    go_returns
    exact ⟨rfl, rfl⟩
/-- What an operator's function answers. -/
def AppP (o : Option Nat) (e : Ending) : Prop := (∃ n : Nat, o = some n ∧ e = .returned (.tuple #[.int .u64 n, .bool true])) ∨ (o = none ∧ ∃ m : Int, e = .returned (.tuple #[.int .u64 m, .bool false]))
def divO (o : ByteArray) (a b : Nat) : Option Nat := if b = 0 then none else if o = ⟨#[47]⟩ then some (a / b) else some (a % b)
set_option maxRecDepth 100000 in
theorem divide_any (o : ByteArray) (a b : Nat) (ha : a ≤ mostN) (hb : b ≤ mostN) (w : World) : Calls Tryz.prog 55 #[.string o, .int .u64 a, .int .u64 b] w fun e w' => AppP (divO o a b) e ∧ w' = w := by
  rw [mostN_val] at ha hb
  have hd := Nat.div_le_self a b
  have hm := Nat.mod_le a b
  go_enter Tryz.func55, Tryz.ntmps55
  by_cases h0 : b = 0
  · subst h0
    have P := hid (show divO o a 0 = none from by unfold divO; rw [if_pos rfl])
    go_wp2
    go_returns
    exact ⟨Or.inr ⟨P.out, _, rfl⟩, rfl⟩
  · have t0 : (((b : Nat) : Int) == 0) = false := by rw [beq_eq_false_iff_ne]; omega
    have n0 : ((b : Nat) : Int) ≠ 0 := by omega
    by_cases h1 : o = ⟨#[47]⟩
    · have P := hid (show divO o a b = some (a / b) from by unfold divO; rw [if_neg h0, if_pos h1])
      subst h1
      have q0 : (0 : Int) ≤ (a : Int) / (b : Int) := Int.ediv_nonneg (by omega) (by omega)
      have q1 : (a : Int) / (b : Int) ≤ 4611686018427387904 := by
        have : ((a / b : Nat) : Int) ≤ 4611686018427387904 := by omega
        exact this
      go_wp2
      go_returns
      exact ⟨Or.inl ⟨_, P.out, rfl⟩, rfl⟩
    · have P := hid (show divO o a b = some (a % b) from by unfold divO; rw [if_neg h0, if_neg h1])
      have t1 := str_nl0 h1
      go_wp2
      go_returns
      exact ⟨Or.inl ⟨_, P.out, rfl⟩, rfl⟩
theorem quo_cast (b : Nat) : (4611686018427387904 : Int) / 2 ^ b = ((4611686018427387904 / 2 ^ b : Nat) : Int) := by simp
theorem shl_yes {a b : Nat} (hb : b ≤ 62) (h : a * 2 ^ b ≤ 4611686018427387904) : (a : Int) ≤ 4611686018427387904 / 2 ^ b ∧ IntKind.u64.wrap ((a : Int) * 2 ^ b) = ((a * 2 ^ b : Nat) : Int) := by
  rw [quo_cast]
  have h1 : a ≤ 4611686018427387904 / 2 ^ b := (Nat.le_div_iff_mul_le (Nat.two_pow_pos b)).2 h
  refine ⟨by omega, ?_⟩
  have e : (a : Int) * 2 ^ b = ((a * 2 ^ b : Nat) : Int) := by simp
  rw [e]
  exact IntWalk.u64_in _ (by omega)
theorem shl_no {a b : Nat} (hb : b ≤ 62) (h : ¬ a * 2 ^ b ≤ 4611686018427387904) : ¬ (a : Int) ≤ 4611686018427387904 / 2 ^ b := by
  rw [quo_cast]
  have h1 : ¬ a ≤ 4611686018427387904 / 2 ^ b := fun c => h ((Nat.le_div_iff_mul_le (Nat.two_pow_pos b)).1 c)
  omega
theorem shl_far {a b : Nat} (ha : a ≠ 0) (hb : 62 < b) : ¬ (a : Int) ≤ 4611686018427387904 / 2 ^ (min b 64) := by
  rcases Nat.lt_or_ge b 64 with c | c
  · obtain rfl : b = 63 := by omega
    have : (4611686018427387904 : Int) / 2 ^ (min 63 64) = 0 := by decide
    omega
  · rw [Nat.min_eq_right c]
    have : (4611686018427387904 : Int) / 2 ^ 64 = 0 := by decide
    omega
theorem shr_is {a : Nat} (ha : a ≤ 4611686018427387904) (b : Nat) : (a : Int) / 2 ^ (min b 64) = ((if b < 63 then a / 2 ^ b else 0 : Nat) : Int) := by
  have e : (a : Int) / 2 ^ (min b 64) = ((a / 2 ^ (min b 64) : Nat) : Int) := by simp
  rw [e]
  by_cases h : b < 63
  · rw [if_pos h, Nat.min_eq_left (by omega)]
  · rw [if_neg h, Nat.div_eq_of_lt]
    rcases Nat.lt_or_ge b 64 with c | c
    · obtain rfl : b = 63 := by omega
      exact Nat.lt_of_le_of_lt ha (by decide)
    · rw [Nat.min_eq_right c]
      exact Nat.lt_of_le_of_lt ha (by decide)
theorem mul_yes {a b : Nat} (h0 : a ≠ 0) (h : a * b ≤ 4611686018427387904) : (b : Int) ≤ 4611686018427387904 / (a : Int) ∧ IntKind.u64.wrap ((a : Int) * (b : Int)) = ((a * b : Nat) : Int) := by
  have h1 : b ≤ 4611686018427387904 / a := (Nat.le_div_iff_mul_le (by omega)).2 (by rw [Nat.mul_comm]; exact h)
  refine ⟨?_, ?_⟩
  · have : ((b : Nat) : Int) ≤ ((4611686018427387904 / a : Nat) : Int) := by omega
    exact this
  · have e : (a : Int) * (b : Int) = ((a * b : Nat) : Int) := by simp
    rw [e]
    exact IntWalk.u64_in _ (by omega)
theorem mul_no {a b : Nat} (h0 : a ≠ 0) (h : ¬ a * b ≤ 4611686018427387904) : ¬ (b : Int) ≤ 4611686018427387904 / (a : Int) := by
  have h1 : ¬ b ≤ 4611686018427387904 / a := fun c => h (by rw [Nat.mul_comm]; exact (Nat.le_div_iff_mul_le (by omega)).1 c)
  intro c
  have : ((b : Nat) : Int) ≤ ((4611686018427387904 / a : Nat) : Int) := c
  omega
end Go.Proofs.YtlilmidffcmkjaaGreatDoor
