/- The document's reader of expressions, plain: signs, levels, numbers. No program in it. -/
import Derived.Test.YtlilmidffcmkjaaGreatDoorPrsX
namespace Go.Proofs.YtlilmidffcmkjaaGreatDoor
open Go.RowKit
set_option linter.unusedVariables false
set_option linter.unusedSimpArgs false
theorem lvl_nil : lvlOf nilS = 0 := by decide
theorem ba_one_eq (a b : UInt8) : ((⟨#[a]⟩ : ByteArray) = ⟨#[b]⟩) ↔ a.toNat = b.toNat := by
  constructor
  · intro h; injection h with h; injection h with h; injection h with h; rw [h]
  · intro h; rw [UInt8.toNat_inj.1 h]
theorem ba_two_eq (a b c d : UInt8) : ((⟨#[a, b]⟩ : ByteArray) = ⟨#[c, d]⟩) ↔ (a.toNat = c.toNat ∧ b.toNat = d.toNat) := by
  constructor
  · intro h
    injection h with h
    injection h with h
    injection h with h1 h2
    injection h2 with h2
    exact ⟨by rw [h1], by rw [h2]⟩
  · intro h; rw [UInt8.toNat_inj.1 h.1, UInt8.toNat_inj.1 h.2]
theorem ba_one_two (a c d : UInt8) : ¬ ((⟨#[a]⟩ : ByteArray) = ⟨#[c, d]⟩) := fun h => by
  have := congrArg ByteArray.size h
  exact absurd this (by show ¬ (1 : Nat) = 2; decide)
theorem ba_two_one (a b c : UInt8) : ¬ ((⟨#[a, b]⟩ : ByteArray) = ⟨#[c]⟩) := fun h => by
  have := congrArg ByteArray.size h
  exact absurd this (by show ¬ (2 : Nat) = 1; decide)
theorem bAt_u8' {s : ByteArray} {k : Nat} (h : k < s.size) : bAt s k = (s[k]'h).toNat := bAt_in h
theorem lvl_one (s : ByteArray) (q : Nat) (h : q + 1 ≤ s.size) (h2 : (opK s q).2 ≠ 2) : lvlOf (s.extract q (q + 1)) = (opK s q).1 := by
  have hq : q < s.size := h
  have hA := bAt_in hq
  have he := ext_one s q s[q] hA
  rw [he]
  unfold opK at h2 ⊢
  rw [hA] at h2 ⊢
  have hlt : s[q].toNat < 256 := s[q].toNat_lt
  generalize s[q] = c at *
  obtain ⟨A, hcA⟩ : ∃ A, c.toNat = A := ⟨_, rfl⟩
  unfold lvlOf sgnT
  simp only [lvlGo]
  simp only [ba_one_two, ba_one_eq, hcA, if_false, UInt8.reduceToNat] at h2 ⊢
  generalize bAt s (q + 1) = B at *
  have hA' : A = 61 ∨ A = 33 ∨ A = 60 ∨ A = 62 ∨ A = 124 ∨ A = 38 ∨ A = 43 ∨ A = 45 ∨ A = 42 ∨ A = 47 ∨ A = 37 ∨ (A ≠ 61 ∧ A ≠ 33 ∧ A ≠ 60 ∧ A ≠ 62 ∧ A ≠ 124 ∧ A ≠ 38 ∧ A ≠ 43 ∧ A ≠ 45 ∧ A ≠ 42 ∧ A ≠ 47 ∧ A ≠ 37) := by omega
  have hB' : B = 61 ∨ B = 60 ∨ B = 62 ∨ (B ≠ 61 ∧ B ≠ 60 ∧ B ≠ 62) := by omega
  clear he hA hcA
  rcases hA' with rfl | rfl | rfl | rfl | rfl | rfl | rfl | rfl | rfl | rfl | rfl | ⟨a1, a2, a3, a4, a5, a6, a7, a8, a9, a10, a11⟩ <;> rcases hB' with rfl | rfl | rfl | ⟨b1, b2, b3⟩ <;> simp_all
theorem lvl_two (s : ByteArray) (q : Nat) (h : q + 2 ≤ s.size) : lvlOf (s.extract q (q + 2)) = if (opK s q).2 = 2 then (opK s q).1 else 0 := by
  have hq : q < s.size := by omega
  have hq1 : q + 1 < s.size := h
  have hA := bAt_in hq
  have hB := bAt_in hq1
  have he := ext_two s q s[q] s[q + 1] hA hB
  rw [he]
  unfold opK
  rw [hA, hB]
  generalize s[q] = c at *
  generalize s[q + 1] = d at *
  obtain ⟨A, hcA⟩ : ∃ A, c.toNat = A := ⟨_, rfl⟩
  obtain ⟨B, hdB⟩ : ∃ B, d.toNat = B := ⟨_, rfl⟩
  unfold lvlOf sgnT
  simp only [lvlGo]
  simp only [ba_two_one, ba_two_eq, hcA, hdB, if_false, UInt8.reduceToNat]
  have hA' : A = 61 ∨ A = 33 ∨ A = 60 ∨ A = 62 ∨ A = 124 ∨ A = 38 ∨ A = 43 ∨ A = 45 ∨ A = 42 ∨ A = 47 ∨ A = 37 ∨ (A ≠ 61 ∧ A ≠ 33 ∧ A ≠ 60 ∧ A ≠ 62 ∧ A ≠ 124 ∧ A ≠ 38 ∧ A ≠ 43 ∧ A ≠ 45 ∧ A ≠ 42 ∧ A ≠ 47 ∧ A ≠ 37) := by omega
  have hB' : B = 61 ∨ B = 60 ∨ B = 62 ∨ (B ≠ 61 ∧ B ≠ 60 ∧ B ≠ 62) := by omega
  clear he hA hcA hB hdB
  rcases hA' with rfl | rfl | rfl | rfl | rfl | rfl | rfl | rfl | rfl | rfl | rfl | ⟨a1, a2, a3, a4, a5, a6, a7, a8, a9, a10, a11⟩ <;> rcases hB' with rfl | rfl | rfl | ⟨b1, b2, b3⟩ <;> simp_all
/-- The sign at q, as the document reads it. -/
def sigT (s : ByteArray) (q : Nat) : ByteArray := if (opK s q).1 = 0 then (if bAt s q = 40 ∨ bAt s q = 41 then s.extract q (q + 1) else nilS) else s.extract q (q + (opK s q).2)
/-- A part of a level, as the document reads it. -/
def lvF (s : ByteArray) (n k deep : Nat) (l : List ExpR) : PR := if n = 7 then opdW s (ex s) (skipK s k) deep l else ex s n k deep l
theorem ex_seven (s : ByteArray) (k deep : Nat) (l : List ExpR) : ex s 7 k deep l = match lvF s 7 k deep l with | some (i, k1, l1) => some (i, skipK s k1, l1) | none => none := by
  unfold lvF
  rw [if_pos rfl, ex_eq]
  cases opdW s (ex s) (skipK s k) deep l with
  | none => rfl
  | some x =>
    obtain ⟨i, k1, l1⟩ := x
    simp only
    rw [lp_eq, if_pos]
    rcases opK_or s (skipK s k1) with e | e
    · rw [e]; exact .inr rfl
    · exact .inl (by omega)
theorem ex_lvF (s : ByteArray) (n k deep : Nat) (l : List ExpR) (h1 : 1 ≤ n) (h6 : n ≤ 6) : ex s n k deep l = match lvF s (n + 1) k deep l with | some (i, k1, l1) => lp s n i k1 deep l1 | none => none := by
  by_cases c : n = 6
  · subst c
    rw [ex_eq]
    unfold lvF
    rw [if_pos rfl]
    rfl
  · rw [ex_split s n h1]
    unfold lvF
    rw [if_neg (by omega)]
    rfl
theorem lvF_ends (s : ByteArray) (n k deep : Nat) (l : List ExpR) (h6 : n ≤ 6) {i k1 : Nat} {l1 : List ExpR} (h : lvF s (n + 1) k deep l = some (i, k1, l1)) : (opK s (skipK s k1)).1 ≤ n := by
  by_cases c : n = 6
  · subst c
    rcases opK_or s (skipK s k1) with e | e
    · rw [e]; decide
    · omega
  · unfold lvF at h
    rw [if_neg (by omega)] at h
    obtain ⟨h1, h2⟩ := ex_ends s (n + 1) k deep l h
    rw [h1]
    omega
theorem lvF_grows (s : ByteArray) (n k deep : Nat) (l : List ExpR) {i k1 : Nat} {l1 : List ExpR} (h : lvF s n k deep l = some (i, k1, l1)) : k ≤ k1 := by
  unfold lvF at h
  split at h
  · exact Nat.le_trans (runK_ge isBlk s k) (opd_grows (ex_grows s) h)
  · exact ex_grows s _ _ _ _ _ _ _ h
/-- Operators of one level, as the document reads them. -/
theorem lp_lvF (s : ByteArray) (n i k deep : Nat) (l : List ExpR) (h1 : 1 ≤ n) (h6 : n ≤ 6) (hle : (opK s (skipK s k)).1 ≤ n) : lp s n i k deep l =
    if (opK s (skipK s k)).1 = n then (match lvF s (n + 1) (skipK s k + (opK s (skipK s k)).2) deep l with
      | some (r, k2, l2) => if l2.length < 400 then lp s n l2.length k2 deep (l2 ++ [⟨s.extract (skipK s k) (skipK s k + (opK s (skipK s k)).2), nilS, 0, (i : Nat), (r : Nat)⟩]) else none
      | none => none)
    else some (i, skipK s k, l) := by
  rw [lp_eq]
  by_cases c : (opK s (skipK s k)).1 = n
  · rw [if_neg (by omega), if_pos c, c]
    by_cases d : n = 6
    · subst d
      rw [ex_seven]
      cases lvF s 7 (skipK s k + (opK s (skipK s k)).2) deep l with
      | none => rfl
      | some x =>
        obtain ⟨r, k2, l2⟩ := x
        simp only
        split
        · exact lp_skip s 6 _ k2 deep _
        · rfl
    · unfold lvF
      rw [if_neg (show ¬ n + 1 = 7 by omega)]
      rfl
  · rw [if_pos (by omega), if_neg c]
end Go.Proofs.YtlilmidffcmkjaaGreatDoor
