/- Plain: symbols' codes that are laid one behind another are read as they were. No program in it. -/
import Derived.Test.YtlgobejphdnobaaHufS
import Derived.Test.YtlgobejphdnobaaBitWI
namespace Go.Proofs.Ytlgobejphdnobaa
open Go.RowKit
set_option linter.unusedVariables false
/-- The first j bits of a code of n bits, the highest first. -/
def rvp (c n : Nat) : Nat → Nat
  | 0 => 0
  | j + 1 => rvp c n j + c / 2 ^ (n - 1 - j) % 2 * 2 ^ j
theorem rvp_lt (c n : Nat) : ∀ j, rvp c n j < 2 ^ j
  | 0 => by simp [rvp]
  | j + 1 => by
    have h1 := rvp_lt c n j
    have h2 : c / 2 ^ (n - 1 - j) % 2 < 2 := Nat.mod_lt _ (by decide)
    show rvp c n j + c / 2 ^ (n - 1 - j) % 2 * 2 ^ j < 2 ^ (j + 1)
    rw [Nat.pow_succ]
    rcases (show c / 2 ^ (n - 1 - j) % 2 = 0 ∨ c / 2 ^ (n - 1 - j) % 2 = 1 by omega) with e | e <;> rw [e] <;> omega
theorem low_bit (N v : Nat) {i k : Nat} (h : i < k) : (N + v * 2 ^ k) / 2 ^ i % 2 = N / 2 ^ i % 2 := by
  obtain ⟨d, rfl⟩ : ∃ d, k = i + 1 + d := ⟨k - i - 1, by omega⟩
  have e : v * 2 ^ (i + 1 + d) = (v * 2 ^ d * 2) * 2 ^ i := by
    rw [Nat.pow_add, Nat.pow_succ]
    simp only [Nat.mul_comm, Nat.mul_left_comm, Nat.mul_assoc]
  rw [e, Nat.add_mul_div_right _ _ (Nat.two_pow_pos _), Nat.add_mul_mod_self_right]
theorem rvp_bit (c n : Nat) : ∀ j i, i < j → rvp c n j / 2 ^ i % 2 = c / 2 ^ (n - 1 - i) % 2
  | 0, i, h => by omega
  | j + 1, i, h => by
    show (rvp c n j + c / 2 ^ (n - 1 - j) % 2 * 2 ^ j) / 2 ^ i % 2 = _
    by_cases e : i = j
    · subst e
      rw [Nat.add_mul_div_right _ _ (Nat.two_pow_pos _), Nat.div_eq_of_lt (rvp_lt c n i), Nat.zero_add, Nat.mod_mod]
    · rw [low_bit _ _ (by omega)]
      exact rvp_bit c n j i (by omega)
theorem put_step (N k c n j m : Nat) (h : j + (m + 1) = n) : N + rvp c n j * 2 ^ k + c / 2 ^ m % 2 * 2 ^ (k + j) = N + rvp c n (j + 1) * 2 ^ k := by
  show _ = N + (rvp c n j + c / 2 ^ (n - 1 - j) % 2 * 2 ^ j) * 2 ^ k
  rw [show n - 1 - j = m by omega, Nat.add_mul, Nat.mul_assoc, ← Nat.pow_add, Nat.add_comm j k, Nat.add_assoc]
/-- These symbols' codes lie in N, from the bit p to the bit q. -/
def LayAt (l : List Int) (N : Nat) : Nat → List Nat → Nat → Prop
  | p, [], q => p = q
  | p, x :: r, q => 0 < lenF l x ∧ (∀ i, i < lenF l x → N / 2 ^ (p + i) % 2 = codeF l x / 2 ^ (lenF l x - 1 - i) % 2) ∧ LayAt l N (p + lenF l x) r q
theorem layAt_le {l : List Int} {N : Nat} : ∀ {r : List Nat} {p q : Nat}, LayAt l N p r q → p ≤ q
  | [], p, q, h => Nat.le_of_eq h
  | x :: r, p, q, h => Nat.le_trans (Nat.le_add_right _ _) (layAt_le h.2.2)
theorem layAt_snoc {l : List Int} {N M : Nat} {q x : Nat} (ha : ∀ i, i < q → M / 2 ^ i % 2 = N / 2 ^ i % 2) (hx : 0 < lenF l x) (hb : ∀ i, i < lenF l x → M / 2 ^ (q + i) % 2 = codeF l x / 2 ^ (lenF l x - 1 - i) % 2) :
    ∀ {r : List Nat} {p : Nat}, LayAt l N p r q → LayAt l M p (r ++ [x]) (q + lenF l x)
  | [], p, h => by
    have h : p = q := h
    subst h
    exact ⟨hx, hb, rfl⟩
  | y :: r, p, h => by
    have := layAt_le h.2.2
    exact ⟨h.1, fun i hi => (ha (p + i) (by omega)).trans (h.2.1 i hi), layAt_snoc ha hx hb h.2.2⟩
/-- One more symbol's code. -/
theorem layAt_more {l : List Int} {N : Nat} {k x : Nat} {r : List Nat} (hN : N < 2 ^ k) (hx : 0 < lenF l x) (h : LayAt l N 0 r k) :
    LayAt l (N + rvp (codeF l x) (lenF l x) (lenF l x) * 2 ^ k) 0 (r ++ [x]) (k + lenF l x) := by
  refine layAt_snoc (fun i hi => low_bit _ _ hi) hx (fun i hi => ?_) h
  rw [Nat.pow_add, ← Nat.div_div_eq_div_mul, Nat.add_mul_div_right _ _ (Nat.two_pow_pos _), Nat.div_eq_of_lt hN, Nat.zero_add]
  exact rvp_bit _ _ _ _ hi
theorem lfK_own {l : List Int} (h : IsCode l) {x : Nat} (hx : 0 < lenF l x) : lfK l l.length (lenF l x, codeF l x) = some x := by
  cases e : lfK l l.length (lenF l x, codeF l x) with
  | none => exact absurd ⟨hx, rfl, rfl⟩ (lfK_none e (lenF_lt hx))
  | some i =>
    obtain ⟨h1, h2, h3, h4⟩ := lfK_some e
    have h3 : lenF l i = lenF l x := h3
    have h4 : codeF l i = codeF l x := h4
    have := code_apart h (i := i) (j := x) (by rw [h3]; exact hx) (by rw [h3]; exact Nat.le_refl _) (by rw [h3, h4]; simp)
    rw [this]
theorem dGo_back {l : List Int} (h : IsCode l) (s : ByteArray) {x p : Nat} (hx : 0 < lenF l x) (hb : ∀ i, i < lenF l x → bv s (p + i) 1 = codeF l x / 2 ^ (lenF l x - 1 - i) % 2) (hs : p + lenF l x ≤ 8 * s.size) :
    ∀ m f, m ≤ lenF l x → m < f → dGo l s f (lenF l x - m, codeF l x / 2 ^ m) (p + (lenF l x - m)) = (x, 0, p + lenF l x)
  | 0, f, _, hf => by
    obtain ⟨f, rfl⟩ : ∃ g, f = g + 1 := ⟨f - 1, by omega⟩
    rw [Nat.sub_zero, Nat.pow_zero, Nat.div_one]
    exact dGo_leaf (lfK_own h hx) s f _
  | m + 1, f, hm, hf => by
    obtain ⟨f, rfl⟩ : ∃ g, f = g + 1 := ⟨f - 1, by omega⟩
    have hn : ndB l (lenF l x - (m + 1), codeF l x / 2 ^ (m + 1)) = true := (ndB_iff l _).2 ⟨x, lenF_lt hx, by show lenF l x - (m + 1) < lenF l x; omega, by
      show codeF l x / 2 ^ (lenF l x - (lenF l x - (m + 1))) = codeF l x / 2 ^ (m + 1)
      rw [show lenF l x - (lenF l x - (m + 1)) = m + 1 by omega]⟩
    rw [dGo_on (nd_apart h hn) hn s f _ (by omega)]
    have e := hb (lenF l x - (m + 1)) (by omega)
    rw [show lenF l x - 1 - (lenF l x - (m + 1)) = m by omega] at e
    have e2 : 2 * (codeF l x / 2 ^ (m + 1)) + bv s (p + (lenF l x - (m + 1))) 1 = codeF l x / 2 ^ m := by
      rw [e, Nat.pow_succ, ← Nat.div_div_eq_div_mul]; omega
    have e1 : lenF l x - (m + 1) + 1 = lenF l x - m := by omega
    have h1 := dGo_back h s hx hb hs m f (by omega) (by omega)
    show dGo l s f (lenF l x - (m + 1) + 1, 2 * (codeF l x / 2 ^ (m + 1)) + bv s (p + (lenF l x - (m + 1))) 1) (p + (lenF l x - (m + 1)) + 1) = _
    rw [e2, e1, show p + (lenF l x - (m + 1)) + 1 = p + (lenF l x - m) by omega]
    exact h1
theorem leN_strN (N d : Nat) (h : N < 2 ^ (8 * d)) : leN (strN N d).data.toList = N := by
  have key : ∀ d N, leN ((List.range d).map fun j => UInt8.ofNat (hiN N j % 256)) = N % 2 ^ (8 * d) := by
    intro d
    induction d with
    | zero => intro N; simp [leN, Nat.mod_one]
    | succ d ih =>
      intro N
      rw [List.range_succ, List.map_append, leN_append, ih]
      simp only [List.map_cons, List.map_nil, List.length_map, List.length_range, leN]
      have e : (UInt8.ofNat (hiN N d % 256)).toNat = N / 2 ^ (8 * d) % 2 ^ 8 := by
        simp [hiN]
      rw [e, Nat.mul_add 8 d 1, mod_split]
      simp
  have := key d N
  rw [Nat.mod_eq_of_lt h] at this
  simpa [strN] using this
/-- The text of the bits: its size, and its bits. -/
theorem back_text {N k : Nat} (hN : N < 2 ^ k) : k ≤ 8 * (strN N ((k + 7) / 8)).size ∧ ∀ i, bv (strN N ((k + 7) / 8)) i 1 = N / 2 ^ i % 2 := by
  have h8 : k ≤ 8 * ((k + 7) / 8) := by omega
  refine ⟨by rw [strN_size]; exact h8, fun i => ?_⟩
  unfold bv
  rw [leN_strN N _ (Nat.lt_of_lt_of_le hN (Nat.pow_le_pow_right (by decide) h8))]
theorem next_back {l : List Int} (h : IsCode l) {s : ByteArray} {N p q x : Nat} {r : List Nat} (hs : q ≤ 8 * s.size) (hb : ∀ i, bv s i 1 = N / 2 ^ i % 2) (hL : LayAt l N p (x :: r) q) :
    nextV l s p = x ∧ nextE l s p = 0 ∧ nextK l s p = p + lenF l x := by
  have hle := layAt_le hL.2.2
  have h15 := (h.len x).1
  have h1 := dGo_back h s hL.1 (fun i hi => (hb _).trans (hL.2.1 i hi)) (by omega) (lenF l x) 16 (Nat.le_refl _) (by omega)
  rw [Nat.sub_self, Nat.div_eq_of_lt (code_lt h hL.1), Nat.add_zero] at h1
  have hR : nextR l s p = (x, 0, p + lenF l x) := h1
  have hE : nextE l s p = 0 := by unfold nextE; rw [hR]
  refine ⟨by unfold nextV; rw [hR], hE, ?_⟩
  unfold nextK
  rw [if_pos hE, hR]
end Go.Proofs.Ytlgobejphdnobaa
