/- Plain: which symbol a path is the code of, which paths lead on, and what Next tells. No program in it. -/
import Derived.Test.YtcacnidlfjglbaaHufQ
import Derived.Test.YtcacnidlfjglbaaBitM
namespace Go.Proofs.Ytcacnidlfjglbaa
open Go.RowKit
set_option linter.unusedVariables false
/-- The symbol that a path is the code of, among the first k. -/
def lfK (l : List Int) (k : Nat) (p : Path) : Option Nat := (List.range k).find? fun i => decide (0 < p.1 ∧ lenF l i = p.1 ∧ codeF l i = p.2)
/-- A path that leads on, to one of the first k. -/
def NdP (l : List Int) (k : Nat) (p : Path) : Prop := ∃ i, i < k ∧ p.1 < lenF l i ∧ codeF l i / 2 ^ (lenF l i - p.1) = p.2
def ndB (l : List Int) (p : Path) : Bool := (List.range l.length).any fun i => decide (p.1 < lenF l i ∧ codeF l i / 2 ^ (lenF l i - p.1) = p.2)
theorem ndB_iff (l : List Int) (p : Path) : ndB l p = true ↔ NdP l l.length p := by
  unfold ndB NdP
  rw [List.any_eq_true]
  constructor
  · rintro ⟨i, hi, h⟩
    exact ⟨i, List.mem_range.1 hi, of_decide_eq_true h⟩
  · rintro ⟨i, hi, h⟩
    exact ⟨i, List.mem_range.2 hi, decide_eq_true h⟩
theorem lfK_some {l : List Int} {k : Nat} {p : Path} {i : Nat} (h : lfK l k p = some i) : i < k ∧ 0 < p.1 ∧ lenF l i = p.1 ∧ codeF l i = p.2 := by
  unfold lfK at h
  have h1 := List.mem_of_find?_eq_some h
  have h2 := List.find?_some h
  exact ⟨List.mem_range.1 h1, of_decide_eq_true h2⟩
theorem lfK_none {l : List Int} {k : Nat} {p : Path} (h : lfK l k p = none) {i : Nat} (hi : i < k) : ¬ (0 < p.1 ∧ lenF l i = p.1 ∧ codeF l i = p.2) := by
  unfold lfK at h
  rw [List.find?_eq_none] at h
  have := h i (List.mem_range.2 hi)
  simpa using this
theorem lfK_isnone {l : List Int} {k : Nat} {p : Path} (h : ∀ i, i < k → ¬ (0 < p.1 ∧ lenF l i = p.1 ∧ codeF l i = p.2)) : lfK l k p = none := by
  unfold lfK
  rw [List.find?_eq_none]
  intro i hi
  have := h i (List.mem_range.1 hi)
  simpa using this
theorem lfK_zero (l : List Int) : lfK l 0 = fun _ => none := rfl
theorem lfK_skip {l : List Int} {k : Nat} (h : lenF l k = 0) : lfK l (k + 1) = lfK l k := by
  funext p
  unfold lfK
  rw [List.range_succ, List.find?_append]
  have : ([k] : List Nat).find? (fun i => decide (0 < p.1 ∧ lenF l i = p.1 ∧ codeF l i = p.2)) = none := by
    rw [List.find?_eq_none]
    intro i hi
    simp only [List.mem_singleton] at hi
    subst hi
    simp only [decide_eq_true_eq]
    omega
  rw [this, Option.or_none]
theorem lfK_put {l : List Int} (h : IsCode l) {k : Nat} (hk : 0 < lenF l k) : lfK l (k + 1) = lfPut (lfK l k) (lenF l k, codeF l k) k := by
  funext p
  unfold lfPut
  by_cases hp : p = (lenF l k, codeF l k)
  · rw [if_pos hp]
    subst hp
    have h0 : lfK l k (lenF l k, codeF l k) = none := lfK_isnone fun i hi hx => by
      have hj := code_apart h (i := i) (j := k) (by rw [hx.2.1]; exact hk) (by rw [hx.2.1]; exact Nat.le_refl _) (by rw [hx.2.1]; simp [hx.2.2])
      omega
    unfold lfK at h0 ⊢
    rw [List.range_succ, List.find?_append, h0]
    simp [hk]
  · rw [if_neg hp]
    unfold lfK
    rw [List.range_succ, List.find?_append]
    have : ([k] : List Nat).find? (fun i => decide (0 < p.1 ∧ lenF l i = p.1 ∧ codeF l i = p.2)) = none := by
      rw [List.find?_eq_none]
      intro i hi
      simp only [List.mem_singleton] at hi
      subst hi
      simp only [decide_eq_true_eq]
      intro hx
      exact hp (Prod.ext hx.2.1.symm hx.2.2.symm)
    rw [this, Option.or_none]
/-- The proper beginnings of the next symbol's code are no symbols' codes. -/
theorem lfK_way {l : List Int} (h : IsCode l) {k M : Nat} (h0 : 0 < M) (hM : M < lenF l k) : lfK l k (M, codeF l k / 2 ^ (lenF l k - M)) = none := by
  refine lfK_isnone fun i hi hx => ?_
  have hj := code_apart h (i := i) (j := k) (by rw [hx.2.1]; exact h0) (by rw [hx.2.1]; exact Nat.le_of_lt hM) (by rw [hx.2.1]; exact hx.2.2.symm)
  omega
/-- A path that leads on is no symbol's code. -/
theorem nd_apart {l : List Int} (h : IsCode l) {p : Path} (hp : ndB l p = true) : lfK l l.length p = none := by
  obtain ⟨i, hi, h1, h2⟩ := (ndB_iff l p).1 hp
  refine lfK_isnone fun j hj hx => ?_
  have e := code_apart h (i := j) (j := i) (by omega) (by omega) (by rw [hx.2.1, h2]; exact hx.2.2.symm)
  subst e; omega
/-- The rows of the first k symbols' codes. -/
structure TreeK (l : List Int) (k : Nat) (P : List Path) : Prop where
  ok : TreeOk P (lfK l k)
  mem : ∀ p, p ∈ P ↔ NdP l k p
theorem treeK_zero (l : List Int) : TreeK l 0 [] := by
  refine ⟨⟨List.nodup_nil, fun p h => by simp at h, fun L v h => by simp at h, fun L v i h => by rw [lfK_zero] at h; cases h⟩, fun p => ?_⟩
  constructor
  · intro h; simp at h
  · rintro ⟨i, hi, _⟩; omega
theorem treeK_skip {l : List Int} {k : Nat} {P : List Path} (h : TreeK l k P) (h0 : lenF l k = 0) : TreeK l (k + 1) P := by
  refine ⟨by rw [lfK_skip h0]; exact h.ok, fun p => (h.mem p).trans ?_⟩
  constructor
  · rintro ⟨i, hi, hx⟩; exact ⟨i, by omega, hx⟩
  · rintro ⟨i, hi, h1, h2⟩
    refine ⟨i, ?_, h1, h2⟩
    by_cases e : i = k
    · subst e; omega
    · omega
/-- What Next finds: the symbol, the error, where it ends. -/
def dGo (l : List Int) (s : ByteArray) : Nat → Path → Nat → Nat × Int × Nat
  | 0, _, k => (0, 3, k)
  | f + 1, p, k =>
    match lfK l l.length p with
    | some i => (i, 0, k)
    | none => if ndB l p then (if 8 * s.size ≤ k then (0, 2, k) else dGo l s f (p.1 + 1, 2 * p.2 + bv s k 1) (k + 1)) else (0, 3, k)
theorem dGo_leaf {l : List Int} {p : Path} {i : Nat} (h : lfK l l.length p = some i) (s : ByteArray) (f k : Nat) : dGo l s (f + 1) p k = (i, 0, k) := by rw [dGo, h]
theorem dGo_off {l : List Int} {p : Path} (h : lfK l l.length p = none) (hn : ndB l p = false) (s : ByteArray) (f k : Nat) : dGo l s (f + 1) p k = (0, 3, k) := by rw [dGo, h]; simp [hn]
theorem dGo_cut {l : List Int} {p : Path} (h : lfK l l.length p = none) (hn : ndB l p = true) (s : ByteArray) (f k : Nat) (hk : 8 * s.size ≤ k) : dGo l s (f + 1) p k = (0, 2, k) := by rw [dGo, h]; simp [hn, hk]
theorem dGo_on {l : List Int} {p : Path} (h : lfK l l.length p = none) (hn : ndB l p = true) (s : ByteArray) (f k : Nat) (hk : ¬ 8 * s.size ≤ k) : dGo l s (f + 1) p k = dGo l s f (p.1 + 1, 2 * p.2 + bv s k 1) (k + 1) := by rw [dGo, h]; simp [hn, hk]
def nextR (l : List Int) (s : ByteArray) (k : Nat) : Nat × Int × Nat := dGo l s 16 (0, 0) k
def nextV (l : List Int) (s : ByteArray) (k : Nat) : Nat := (nextR l s k).1
def nextE (l : List Int) (s : ByteArray) (k : Nat) : Int := (nextR l s k).2.1
/-- Where the reader stands behind Next. -/
def nextK (l : List Int) (s : ByteArray) (k : Nat) : Nat := if nextE l s k = 0 then (nextR l s k).2.2 else k
theorem lfK_top (l : List Int) (k v : Nat) : lfK l k (0, v) = none := lfK_isnone fun i _ h => by have := h.1; simp at this
theorem nd_short {l : List Int} (h : IsCode l) {p : Path} (hp : ndB l p = true) : p.1 < 15 := by
  obtain ⟨i, hi, h1, h2⟩ := (ndB_iff l p).1 hp
  have := (h.len i).1
  omega
theorem dGo_le (l : List Int) (s : ByteArray) : ∀ (f : Nat) (p : Path) (k : Nat), k ≤ 8 * s.size → k ≤ (dGo l s f p k).2.2 ∧ (dGo l s f p k).2.2 ≤ 8 * s.size ∧ (dGo l s f p k).2.2 ≤ k + f
  | 0, p, k, h => ⟨Nat.le_refl _, h, Nat.le_refl _⟩
  | f + 1, p, k, h => by
    rw [dGo]
    split
    · exact ⟨Nat.le_refl _, h, by simp⟩
    · split
      · split
        · exact ⟨Nat.le_refl _, h, by simp⟩
        · have := dGo_le l s f (p.1 + 1, 2 * p.2 + bv s k 1) (k + 1) (by omega)
          omega
      · exact ⟨Nat.le_refl _, h, by simp⟩
theorem nextK_le (l : List Int) (s : ByteArray) (k : Nat) (h : k ≤ 8 * s.size) : nextK l s k ≤ 8 * s.size := by
  unfold nextK nextR
  split
  · exact (dGo_le l s 16 (0, 0) k h).2.1
  · exact h
theorem dGo_sym (l : List Int) (s : ByteArray) : ∀ (f : Nat) (p : Path) (k : Nat), (dGo l s f p k).1 ≤ l.length ∧ ((dGo l s f p k).2.1 = 0 → (dGo l s f p k).1 < l.length ∧ 0 < lenF l (dGo l s f p k).1) ∧ ((dGo l s f p k).2.1 = 0 ∨ (dGo l s f p k).2.1 = 2 ∨ (dGo l s f p k).2.1 = 3) ∧ ((dGo l s f p k).2.1 ≠ 0 → (dGo l s f p k).1 = 0)
  | 0, p, k => ⟨Nat.zero_le _, (fun h => by simp [dGo] at h), .inr (.inr rfl), fun _ => rfl⟩
  | f + 1, p, k => by
    rw [dGo]
    split
    · rename_i i hi
      have := lfK_some hi
      refine ⟨by simp only; omega, fun _ => ⟨this.1, by simp only; omega⟩, .inl rfl, fun h => absurd rfl h⟩
    · split
      · split
        · exact ⟨Nat.zero_le _, (fun h => by simp at h), .inr (.inl rfl), fun _ => rfl⟩
        · exact dGo_sym l s f _ _
      · exact ⟨Nat.zero_le _, (fun h => by simp at h), .inr (.inr rfl), fun _ => rfl⟩
end Go.Proofs.Ytcacnidlfjglbaa
