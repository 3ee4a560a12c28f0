/- Plain: a code as a tree of rows, two cells a row. No program in it. -/
import Derived.Test.YtacgnadhpgkcmaaDoorHufP
namespace Go.Proofs.YtacgnadhpgkcmaaDoor
open Go.RowKit
set_option linter.unusedVariables false
abbrev Path := Nat × Nat
/-- Where a path leads: to a symbol (below 0), to a row (above 0), or nowhere (0). -/
def chl (P : List Path) (lf : Path → Option Nat) (p : Path) : Int :=
  match lf p with
  | some i => -((i : Int) + 1)
  | none => if p ∈ P then (P.idxOf p : Nat) else 0
def rowOf (P : List Path) (lf : Path → Option Nat) (p : Path) : List Value := [.int .i64 (chl P lf (p.1 + 1, 2 * p.2)), .int .i64 (chl P lf (p.1 + 1, 2 * p.2 + 1))]
def rowCells (P : List Path) (lf : Path → Option Nat) : List Value := P.flatMap (rowOf P lf)
structure TreeOk (P : List Path) (lf : Path → Option Nat) : Prop where
  nd : P.Nodup
  root : ∀ p, P[0]? = some p → p = (0, 0)
  up : ∀ L v, (L + 1, v) ∈ P → (L, v / 2) ∈ P
  lup : ∀ L v i, lf (L + 1, v) = some i → (L, v / 2) ∈ P
theorem chl_leaf {P : List Path} {lf : Path → Option Nat} {p : Path} {i : Nat} (h : lf p = some i) : chl P lf p = -((i : Int) + 1) := by unfold chl; rw [h]
theorem chl_row {P : List Path} {lf : Path → Option Nat} {p : Path} (h : lf p = none) (hp : p ∈ P) : chl P lf p = (P.idxOf p : Nat) := by unfold chl; rw [h]; exact if_pos hp
theorem chl_none {P : List Path} {lf : Path → Option Nat} {p : Path} (h : lf p = none) (hp : ¬ p ∈ P) : chl P lf p = 0 := by unfold chl; rw [h]; exact if_neg hp
theorem flat2_len {α : Type} (f : α → List Value) (hf : ∀ x, (f x).length = 2) : ∀ P : List α, (P.flatMap f).length = 2 * P.length
  | [] => rfl
  | x :: P => by
    rw [List.flatMap_cons, List.length_append, hf, flat2_len f hf P, List.length_cons]; omega
theorem flat2_get {α : Type} (f : α → List Value) (hf : ∀ x, (f x).length = 2) : ∀ (P : List α) (i b : Nat) (hi : i < P.length) (hb : b < 2), (P.flatMap f)[2 * i + b]? = (f P[i])[b]?
  | [], i, b, hi, _ => absurd hi (by simp)
  | x :: P, 0, b, _, hb => by
    rw [List.flatMap_cons, List.getElem?_append_left (by rw [hf]; omega)]
    simp
  | x :: P, i + 1, b, hi, hb => by
    rw [List.flatMap_cons, List.getElem?_append_right (by rw [hf]; omega), hf, show 2 * (i + 1) + b - 2 = 2 * i + b by omega]
    exact flat2_get f hf P i b (by simpa using hi) hb
theorem flat2_set {α : Type} (f g : α → List Value) (hf : ∀ x, (f x).length = 2) (hg : ∀ x, (g x).length = 2) (P : List α) (i b : Nat) (hi : i < P.length) (hb : b < 2) (v : Value)
    (h1 : ∀ j (hj : j < P.length), j ≠ i → f P[j] = g P[j]) (h2 : (f P[i]).set b v = g P[i]) : (P.flatMap f).set (2 * i + b) v = P.flatMap g := by
  apply List.ext_getElem?
  intro m
  rw [List.getElem?_set, flat2_len f hf]
  by_cases hm : m < 2 * P.length
  · have hj : m / 2 < P.length := by omega
    have e : m = 2 * (m / 2) + m % 2 := by omega
    have hc : m % 2 < 2 := Nat.mod_lt _ (by decide)
    generalize m / 2 = j at *
    generalize m % 2 = c at *
    subst e
    rw [flat2_get g hg P j c hj hc]
    by_cases hji : j = i
    · subst hji
      rw [← h2, List.getElem?_set, hf]
      by_cases hcb : b = c
      · subst hcb; rw [if_pos rfl, if_pos rfl, if_pos hm, if_pos hb]
      · rw [if_neg (by omega), if_neg hcb, flat2_get f hf P j c hj hc]
    · rw [if_neg (by omega), flat2_get f hf P j c hj hc, h1 j hj hji]
  · rw [if_neg (by omega), List.getElem?_eq_none (by rw [flat2_len f hf]; omega), List.getElem?_eq_none (by rw [flat2_len g hg]; omega)]
theorem rowOf_len (P : List Path) (lf : Path → Option Nat) (p : Path) : (rowOf P lf p).length = 2 := rfl
theorem rowCells_get (P : List Path) (lf : Path → Option Nat) (i b : Nat) (hi : i < P.length) (hb : b < 2) : (rowCells P lf)[2 * i + b]? = some (.int .i64 (chl P lf (P[i].1 + 1, 2 * P[i].2 + b))) := by
  unfold rowCells
  rw [flat2_get _ (rowOf_len P lf) P i b hi hb]
  have : b = 0 ∨ b = 1 := by omega
  rcases this with rfl | rfl <;> rfl
theorem rowCells_len (P : List Path) (lf : Path → Option Nat) : (rowCells P lf).length = 2 * P.length := flat2_len _ (rowOf_len P lf) P
theorem idx_at {P : List Path} {p : Path} (h : p ∈ P) : ∃ hi : P.idxOf p < P.length, P[P.idxOf p] = p := by
  have hi := List.idxOf_lt_length_of_mem h
  exact ⟨hi, List.getElem_idxOf hi⟩
theorem idx_pos {P : List Path} {lf : Path → Option Nat} (h : TreeOk P lf) {p : Path} (hp : p ∈ P) (h0 : 0 < p.1) : 0 < P.idxOf p := by
  obtain ⟨hi, e⟩ := idx_at hp
  rcases Nat.eq_zero_or_pos (P.idxOf p) with h1 | h1
  · have h2 : P[0]? = some p := by
      rw [← e]
      simp only [h1]
      rw [List.getElem?_eq_getElem]
    have := h.root p h2
    rw [this] at h0; simp at h0
  · exact h1
/-- A row more: the way from its parent is laid, and the row leads nowhere. -/
theorem tree_grow {P : List Path} {lf : Path → Option Nat} (h : TreeOk P lf) (L v : Nat) (b : Nat) (hb : b < 2) (hp : (L, v) ∈ P) (hq : ¬ (L + 1, 2 * v + b) ∈ P) (hl : lf (L + 1, 2 * v + b) = none) :
    (rowCells P lf).set (2 * P.idxOf (L, v) + b) (.int .i64 (P.length : Nat)) ++ [.int .i64 0, .int .i64 0] = rowCells (P ++ [(L + 1, 2 * v + b)]) lf := by
  obtain ⟨hi, e⟩ := idx_at hp
  have hne : ∀ p, p ≠ (L + 1, 2 * v + b) → chl (P ++ [(L + 1, 2 * v + b)]) lf p = chl P lf p := fun p hpq => by
    unfold chl
    cases lf p with
    | some i => rfl
    | none =>
      by_cases hm : p ∈ P
      · rw [if_pos hm, if_pos (by simp [hm]), List.idxOf_append, if_pos hm]
      · rw [if_neg hm, if_neg (by simp [hm, hpq])]
  have hnew : chl (P ++ [(L + 1, 2 * v + b)]) lf (L + 1, 2 * v + b) = (P.length : Nat) := by
    rw [chl_row hl (by simp), List.idxOf_append, if_neg hq]
    simp
  have hdown : ∀ c, c < 2 → chl (P ++ [(L + 1, 2 * v + b)]) lf (L + 1 + 1, 2 * (2 * v + b) + c) = 0 := fun c hc => by
    have e2 : (2 * (2 * v + b) + c) / 2 = 2 * v + b := by omega
    refine (hne _ (by simp)).trans (chl_none ?_ ?_)
    · cases hx : lf (L + 1 + 1, 2 * (2 * v + b) + c) with
      | none => rfl
      | some i =>
        have := h.lup _ _ _ hx
        rw [e2] at this
        exact absurd this hq
    · intro hx
      have := h.up _ _ hx
      rw [e2] at this
      exact hq this
  unfold rowCells
  rw [List.flatMap_append]
  congr 1
  · refine flat2_set _ _ (rowOf_len P lf) (rowOf_len _ lf) P _ b hi hb _ (fun j hj hji => ?_) ?_
    · have hpj : P[j] ≠ (L, v) := fun hx => hji (by
        have := h.nd.idxOf_getElem j hj
        rw [hx] at this
        exact this.symm)
      unfold rowOf
      rw [hne, hne]
      · intro hx
        have h1 : P[j].1 + 1 = L + 1 := congrArg Prod.fst hx
        have h2 : 2 * P[j].2 + 1 = 2 * v + b := congrArg Prod.snd hx
        exact hpj (Prod.ext (by omega) (by simp only; omega))
      · intro hx
        have h1 : P[j].1 + 1 = L + 1 := congrArg Prod.fst hx
        have h2 : 2 * P[j].2 = 2 * v + b := congrArg Prod.snd hx
        exact hpj (Prod.ext (by omega) (by simp only; omega))
    · rw [e]
      have : b = 0 ∨ b = 1 := by omega
      rcases this with rfl | rfl
      · unfold rowOf
        rw [hne (L + 1, 2 * v + 1) (fun hx => by have := congrArg Prod.snd hx; simp at this)]
        have := hnew
        simp only [Nat.add_zero] at this
        simp only [List.set_cons_zero, Nat.add_zero]
        rw [this]
      · unfold rowOf
        rw [hne (L + 1, 2 * v) (fun hx => by have := congrArg Prod.snd hx; simp at this)]
        simp only [List.set_cons_succ, List.set_cons_zero]
        rw [hnew]
  · have d0 := hdown 0 (by omega)
    have d1 := hdown 1 (by omega)
    simp only [Nat.add_zero] at d0
    simp only [List.flatMap_cons, List.flatMap_nil, List.append_nil]
    unfold rowOf
    simp only
    rw [d0, d1]
theorem tree_grow_ok {P : List Path} {lf : Path → Option Nat} (h : TreeOk P lf) (L v : Nat) (b : Nat) (hb : b < 2) (hp : (L, v) ∈ P) (hq : ¬ (L + 1, 2 * v + b) ∈ P) : TreeOk (P ++ [(L + 1, 2 * v + b)]) lf := by
  refine ⟨?_, ?_, ?_, ?_⟩
  · rw [List.nodup_append]
    refine ⟨h.nd, by simp, fun a ha c hc => ?_⟩
    simp only [List.mem_singleton] at hc
    subst hc
    exact fun hx => hq (hx ▸ ha)
  · intro p hx
    have hlen : 0 < P.length := List.length_pos_of_mem hp
    rw [List.getElem?_append_left hlen] at hx
    exact h.root p hx
  · intro M u hx
    rw [List.mem_append] at hx ⊢
    rcases hx with hx | hx
    · exact .inl (h.up _ _ hx)
    · left
      simp only [List.mem_singleton, Prod.mk.injEq] at hx
      obtain ⟨h1, h2⟩ := hx
      rw [h2, show (2 * v + b) / 2 = v by omega, show M = L by omega]
      exact hp
  · intro M u i hx
    exact List.mem_append_left _ (h.lup _ _ _ hx)
/-- A symbol more. -/
def lfPut (lf : Path → Option Nat) (q : Path) (i : Nat) : Path → Option Nat := fun p => if p = q then some i else lf p
theorem tree_leaf {P : List Path} {lf : Path → Option Nat} (h : TreeOk P lf) (L v : Nat) (b : Nat) (hb : b < 2) (hp : (L, v) ∈ P) (i : Nat) :
    (rowCells P lf).set (2 * P.idxOf (L, v) + b) (.int .i64 (-((i : Int) + 1))) = rowCells P (lfPut lf (L + 1, 2 * v + b) i) := by
  obtain ⟨hi, e⟩ := idx_at hp
  have hne : ∀ p, p ≠ (L + 1, 2 * v + b) → chl P (lfPut lf (L + 1, 2 * v + b) i) p = chl P lf p := fun p hpq => by
    unfold chl lfPut
    rw [if_neg hpq]
  have hnew : chl P (lfPut lf (L + 1, 2 * v + b) i) (L + 1, 2 * v + b) = -((i : Int) + 1) := chl_leaf (by unfold lfPut; rw [if_pos rfl])
  unfold rowCells
  refine flat2_set _ _ (rowOf_len P lf) (rowOf_len _ _) P _ b hi hb _ (fun j hj hji => ?_) ?_
  · have hpj : P[j] ≠ (L, v) := fun hx => hji (by
      have := h.nd.idxOf_getElem j hj
      rw [hx] at this
      exact this.symm)
    unfold rowOf
    rw [hne, hne]
    · intro hx
      have h1 : P[j].1 + 1 = L + 1 := congrArg Prod.fst hx
      have h2 : 2 * P[j].2 + 1 = 2 * v + b := congrArg Prod.snd hx
      exact hpj (Prod.ext (by omega) (by simp only; omega))
    · intro hx
      have h1 : P[j].1 + 1 = L + 1 := congrArg Prod.fst hx
      have h2 : 2 * P[j].2 = 2 * v + b := congrArg Prod.snd hx
      exact hpj (Prod.ext (by omega) (by simp only; omega))
  · rw [e]
    have : b = 0 ∨ b = 1 := by omega
    rcases this with rfl | rfl
    · unfold rowOf
      rw [hne (L + 1, 2 * v + 1) (fun hx => by have := congrArg Prod.snd hx; simp at this)]
      have := hnew
      simp only [Nat.add_zero] at this
      simp only [List.set_cons_zero, Nat.add_zero]
      rw [this]
    · unfold rowOf
      rw [hne (L + 1, 2 * v) (fun hx => by have := congrArg Prod.snd hx; simp at this)]
      simp only [List.set_cons_succ, List.set_cons_zero]
      rw [hnew]
theorem tree_leaf_ok {P : List Path} {lf : Path → Option Nat} (h : TreeOk P lf) (L v : Nat) (hp : (L, v / 2) ∈ P) (i : Nat) : TreeOk P (lfPut lf (L + 1, v) i) := by
  refine ⟨h.nd, h.root, h.up, fun M u j hx => ?_⟩
  unfold lfPut at hx
  split at hx
  · rename_i hq
    have h1 : M + 1 = L + 1 := congrArg Prod.fst hq
    have h2 : u = v := congrArg Prod.snd hq
    rw [h2, show M = L by omega]
    exact hp
  · exact h.lup _ _ _ hx
end Go.Proofs.YtacgnadhpgkcmaaDoor
