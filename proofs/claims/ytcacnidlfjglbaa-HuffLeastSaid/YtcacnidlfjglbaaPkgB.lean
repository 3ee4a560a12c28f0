/- Plain: package-merge: the lengths that come of it are a code's: Kraft's sum. No program in it. -/
import Derived.Test.YtcacnidlfjglbaaPkgA
namespace Go.Proofs.Ytcacnidlfjglbaa
open Go.RowKit Go.Conc
set_option linter.unusedVariables false
/-- In how many levels the r-th leaf is chosen, and what it is worth there. -/
def cntR (f : Nat → Nat) (r : Nat) : Nat → Nat
  | 0 => if r < f 0 then 1 else 0
  | k + 1 => cntR f r k + if r < f (k + 1) then 1 else 0
def worR (f : Nat → Nat) (r : Nat) : Nat → Nat
  | 0 => if r < f 0 then 1 else 0
  | k + 1 => worR f r k + if r < f (k + 1) then 2 ^ (k + 1) else 0
theorem cntR_le (f : Nat → Nat) (r : Nat) : ∀ k, cntR f r k ≤ k + 1
  | 0 => by unfold cntR; split <;> omega
  | k + 1 => by have := cntR_le f r k; unfold cntR; split <;> omega
theorem cntR_zero {f : Nat → Nat} {r : Nat} : ∀ k, (∀ j, j < k → f j ≤ f (j + 1)) → f k ≤ r → cntR f r k = 0 ∧ worR f r k = 0
  | 0, _, h => by unfold cntR worR; rw [if_neg (by omega)]; exact ⟨rfl, rfl⟩
  | k + 1, hm, h => by
    have h1 := hm k (by omega)
    have := cntR_zero k (fun j hj => hm j (by omega)) (show f k ≤ r by omega)
    unfold cntR worR
    rw [if_neg (by omega), if_neg (by omega), this.1, this.2]
    exact ⟨rfl, rfl⟩
/-- The levels of a leaf are the topmost ones. -/
theorem worR_eq {f : Nat → Nat} {r : Nat} : ∀ k, (∀ j, j < k → f j ≤ f (j + 1)) → worR f r k + 2 ^ (k + 1 - cntR f r k) = 2 ^ (k + 1)
  | 0, _ => by unfold worR cntR; split <;> decide
  | k + 1, hm => by
    have hm' : ∀ j, j < k → f j ≤ f (j + 1) := fun j hj => hm j (by omega)
    by_cases h : r < f (k + 1)
    · have ih := worR_eq (r := r) k hm'
      have hc := cntR_le f r k
      unfold worR cntR
      rw [if_pos h, if_pos h, show k + 1 + 1 - (cntR f r k + 1) = k + 1 - cntR f r k by omega, Nat.pow_succ 2 (k + 1)]
      omega
    · have := cntR_zero (f := f) (r := r) (k + 1) hm (by omega)
      rw [this.1, this.2]
      simp
def sumR (g : Nat → Nat) : Nat → Nat
  | 0 => 0
  | n + 1 => sumR g n + g n
theorem sumR_add (g h : Nat → Nat) : ∀ n, sumR (fun r => g r + h r) n = sumR g n + sumR h n
  | 0 => rfl
  | n + 1 => by unfold sumR; rw [sumR_add g h n]; omega
theorem sumR_const (c : Nat) : ∀ n, sumR (fun _ => c) n = n * c
  | 0 => by simp [sumR]
  | n + 1 => by unfold sumR; rw [sumR_const c n, Nat.succ_mul]
theorem sumR_cut (a c : Nat) : ∀ n, sumR (fun r => if r < a then c else 0) n = min a n * c
  | 0 => by simp [sumR]
  | n + 1 => by
    unfold sumR
    rw [sumR_cut a c n]
    by_cases h : n < a
    · rw [if_pos h, show min a n = n by omega, show min a (n + 1) = n + 1 by omega, Nat.succ_mul]
    · rw [if_neg h, show min a n = a by omega, show min a (n + 1) = a by omega, Nat.add_zero]
theorem sumR_congr {g h : Nat → Nat} : ∀ n, (∀ r, r < n → g r = h r) → sumR g n = sumR h n
  | 0, _ => rfl
  | n + 1, e => by unfold sumR; rw [sumR_congr n fun r hr => e r (by omega), e n (by omega)]
theorem sumR_ge {g : Nat → Nat} : ∀ n r, r < n → g r ≤ sumR g n
  | 0, r, h => by omega
  | n + 1, r, h => by
    unfold sumR
    by_cases e : r = n
    · subst e; omega
    · have := sumR_ge (g := g) n r (by omega); omega
theorem sumR_ge2 {g : Nat → Nat} : ∀ n r q, r < n → q < n → r ≠ q → g r + g q ≤ sumR g n
  | 0, r, q, h, _, _ => by omega
  | n + 1, r, q, h, h2, hne => by
    unfold sumR
    by_cases e : r = n
    · subst e; have := sumR_ge (g := g) r q (by omega); omega
    · by_cases e2 : q = n
      · subst e2; have := sumR_ge (g := g) q r (by omega); omega
      · have := sumR_ge2 (g := g) n r q (by omega) (by omega) hne; omega
theorem sumR_worth (f : Nat → Nat) (n : Nat) : ∀ k, (∀ j, j ≤ k → f j ≤ n) → sumR (fun r => worR f r k) n = sumW f k
  | 0, h => by
    have := sumR_cut (f 0) 1 n
    rw [show min (f 0) n = f 0 by have := h 0 (Nat.le_refl _); omega] at this
    simpa [worR, sumW] using this
  | k + 1, h => by
    have e : (fun r => worR f r (k + 1)) = fun r => worR f r k + (fun r => if r < f (k + 1) then 2 ^ (k + 1) else 0) r := rfl
    rw [e, sumR_add, sumR_worth f n k (fun j hj => h j (by omega)), sumR_cut, show min (f (k + 1)) n = f (k + 1) by have := h (k + 1) (Nat.le_refl _); omega]
    rfl
/-- Kraft's sum of the lengths of n symbols, the highest level being k: exactly 1. -/
theorem kraft_levels {f : Nat → Nat} {n k : Nat} (hn : 1 ≤ n) (hm : ∀ j, j < k → f j ≤ f (j + 1)) (hf : ∀ j, j ≤ k → f j ≤ n) (hw : sumW f k = (2 * n - 2) * 2 ^ k) :
    sumR (fun r => 2 ^ (k + 1 - cntR f r k)) n = 2 ^ (k + 1) := by
  have h1 := sumR_add (fun r => worR f r k) (fun r => 2 ^ (k + 1 - cntR f r k)) n
  rw [sumR_congr (h := fun _ => 2 ^ (k + 1)) n (fun r _ => worR_eq k hm), sumR_const, sumR_worth f n k hf, hw] at h1
  have e1 : (2 * n - 2) * 2 ^ k = (n - 1) * 2 ^ (k + 1) := by
    rw [show 2 * n - 2 = (n - 1) * 2 by omega, Nat.mul_assoc, Nat.pow_succ, Nat.mul_comm 2]
  have e2 : n * 2 ^ (k + 1) = (n - 1) * 2 ^ (k + 1) + 2 ^ (k + 1) := by
    obtain ⟨d, rfl⟩ : ∃ d, n = d + 1 := ⟨n - 1, by omega⟩
    rw [Nat.succ_mul]; rfl
  omega
/-- Every one of two or more symbols gets a code. -/
theorem levels_all {f : Nat → Nat} {n k : Nat} (hn : 2 ≤ n) (hm : ∀ j, j < k → f j ≤ f (j + 1)) (hf : ∀ j, j ≤ k → f j ≤ n) (hw : sumW f k = (2 * n - 2) * 2 ^ k) {r : Nat} (hr : r < n) : 1 ≤ cntR f r k := by
  rcases Nat.eq_zero_or_pos (cntR f r k) with h0 | h
  · exfalso
    have hs := kraft_levels (by omega) hm hf hw
    obtain ⟨q, hq, hne⟩ : ∃ q, q < n ∧ r ≠ q := by
      by_cases e : r = 0
      · exact ⟨1, by omega, by omega⟩
      · exact ⟨0, by omega, e⟩
    have := sumR_ge2 (g := fun r => 2 ^ (k + 1 - cntR f r k)) n r q hr hq hne
    simp only [hs, h0, Nat.sub_zero] at this
    have := Nat.two_pow_pos (k + 1 - cntR f q k)
    omega
  · exact h
/-- A lighter leaf is chosen in no fewer levels. -/
theorem cntR_anti (f : Nat → Nat) {r q : Nat} (h : r ≤ q) : ∀ k, cntR f q k ≤ cntR f r k
  | 0 => by unfold cntR; split <;> split <;> omega
  | k + 1 => by have := cntR_anti f h k; unfold cntR; split <;> split <;> omega
/-- The levels are long enough where the symbols are not too many. -/
theorem lvlM_long (M : List NdM) (h1 : 1 ≤ M.length) : ∀ k, M.length ≤ 2 ^ (k + 1) → 2 * M.length - 2 ≤ (lvlM M k).length := by
  have key : ∀ k e, M.length ≤ e * 2 ^ k → 2 * M.length ≤ (lvlM M k).length + e := by
    intro k
    induction k with
    | zero =>
      intro e he
      show 2 * M.length ≤ (sortL mLt M).length + e
      rw [sortL_len]; omega
    | succ k ih =>
      intro e he
      have := ih (2 * e) (by rw [Nat.pow_succ] at he; calc M.length ≤ e * (2 ^ k * 2) := he
        _ = 2 * e * 2 ^ k := by rw [Nat.mul_comm (2 ^ k) 2, ← Nat.mul_assoc, Nat.mul_comm e 2])
      show 2 * M.length ≤ (sortL mLt (M ++ prM (lvlM M k))).length + e
      rw [sortL_len, List.length_append, prM_len]
      omega
  intro k hk
  have := key k 2 (by rw [Nat.mul_comm, ← Nat.pow_succ]; exact hk)
  omega
end Go.Proofs.Ytcacnidlfjglbaa
