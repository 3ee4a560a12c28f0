/- Plain: package-merge: which leaves the lightest nodes of a level hold. No program in it. -/
import Derived.Test.YtcacnidlfjglbaaHufLe
namespace Go.Proofs.Ytcacnidlfjglbaa
open Go.RowKit Go.Conc
set_option linter.unusedVariables false
/-- S holds A's elements and P's, each in their order. -/
inductive IL {α : Type} : List α → List α → List α → Prop
  | nil : IL [] [] []
  | left {A P S : List α} (a : α) : IL A P S → IL (a :: A) P (a :: S)
  | right {A P S : List α} (p : α) : IL A P S → IL A (p :: P) (p :: S)
section
variable {α : Type}
theorem IL.left_only : ∀ A : List α, IL A [] A
  | [] => .nil
  | a :: A => .left a (left_only A)
theorem IL.put (lt : α → α → Bool) {A P S : List α} (h : IL A P S) (x : α) (hx : ∀ y ∈ P, lt x y = false) : IL A (x :: P) (insRev lt x S) := by
  induction h with
  | nil => exact .right x .nil
  | left a h ih =>
    unfold insRev
    split
    · exact .left a (ih hx)
    · exact .right x (.left a h)
  | right p h ih =>
    unfold insRev
    rw [if_neg (by simp [hx p (List.mem_cons_self ..)])]
    exact .right x (.right p h)
theorem IL.fold (lt : α → α → Bool) : ∀ (P : List α) {Q A r : List α}, IL A Q r → P.Pairwise (fun x y => lt y x = false) → (∀ q ∈ Q, ∀ p ∈ P, lt p q = false) → IL A (P.reverse ++ Q) (P.foldl (fun r x => insRev lt x r) r)
  | [], Q, A, r, h, _, _ => by simpa using h
  | p :: P, Q, A, r, h, hp, hq => by
    rw [List.foldl_cons, List.reverse_cons, List.append_assoc]
    rw [List.pairwise_cons] at hp
    refine IL.fold lt P (h.put lt p fun y hy => hq y hy p (List.mem_cons_self ..)) hp.2 fun q hq' x hx => ?_
    rcases List.mem_cons.1 hq' with rfl | h'
    · exact hp.1 x hx
    · exact hq q h' x (List.mem_cons_of_mem _ hx)
theorem IL.snocL {A P S : List α} (h : IL A P S) (a : α) : IL (A ++ [a]) P (S ++ [a]) := by
  induction h with
  | nil => exact .left a .nil
  | left b h ih => exact .left b ih
  | right p h ih => exact .right p ih
theorem IL.snocR {A P S : List α} (h : IL A P S) (a : α) : IL A (P ++ [a]) (S ++ [a]) := by
  induction h with
  | nil => exact .right a .nil
  | left b h ih => exact .left b ih
  | right p h ih => exact .right p ih
theorem IL.rev {A P S : List α} (h : IL A P S) : IL A.reverse P.reverse S.reverse := by
  induction h with
  | nil => exact .nil
  | left b h ih => rw [List.reverse_cons, List.reverse_cons]; exact ih.snocL b
  | right p h ih => rw [List.reverse_cons, List.reverse_cons]; exact ih.snocR p
/-- What is sorted and comes behind is laid between. -/
theorem sortL_il (lt : α → α → Bool) (M P : List α) (hP : P.Pairwise (fun x y => lt y x = false)) : IL (sortL lt M) P (sortL lt (M ++ P)) := by
  unfold sortL
  rw [List.foldl_append]
  have := (IL.fold lt P (IL.left_only (M.foldl (fun r x => insRev lt x r) [])) hP (fun q hq => by simp at hq)).rev
  simpa using this
theorem IL.split {A P S : List α} (h : IL A P S) : ∀ m, m ≤ S.length → ∃ a b, a + b = m ∧ a ≤ A.length ∧ b ≤ P.length ∧ IL (A.take a) (P.take b) (S.take m) ∧ IL (A.drop a) (P.drop b) (S.drop m) := by
  induction h with
  | nil => intro m hm; exact ⟨0, 0, by simp at hm; omega, Nat.le_refl _, Nat.le_refl _, by simpa using IL.nil, by simpa using IL.nil⟩
  | @left A P S x h ih =>
    intro m hm
    cases m with
    | zero => exact ⟨0, 0, rfl, Nat.zero_le _, Nat.zero_le _, .nil, .left x h⟩
    | succ m =>
      obtain ⟨a, b, h1, h2, h3, h4, h5⟩ := ih m (by simpa using hm)
      exact ⟨a + 1, b, by omega, by simpa using h2, h3, .left x h4, h5⟩
  | @right A P S x h ih =>
    intro m hm
    cases m with
    | zero => exact ⟨0, 0, rfl, Nat.zero_le _, Nat.zero_le _, .nil, .right x h⟩
    | succ m =>
      obtain ⟨a, b, h1, h2, h3, h4, h5⟩ := ih m (by simpa using hm)
      exact ⟨a, b + 1, by omega, h2, by simpa using h3, .right x h4, h5⟩
theorem IL.mem {A P S : List α} (h : IL A P S) (x : α) : x ∈ S ↔ x ∈ A ∨ x ∈ P := by
  induction h with
  | nil => simp
  | left a h ih => simp only [List.mem_cons, ih, or_assoc]
  | right p h ih => simp only [List.mem_cons, ih]; constructor <;> (intro h; rcases h with h | h | h <;> simp [h])
end
theorem flatS_cons (c : NdM) (C : List NdM) : flatS (c :: C) = c.2 ++ flatS C := by simp [flatS]
theorem IL.cnt {A P S : List NdM} (h : IL A P S) (i : Nat) : (flatS S).count i = (flatS A).count i + (flatS P).count i := by
  induction h with
  | nil => rfl
  | left a h ih => rw [flatS_cons, flatS_cons, List.count_append, List.count_append, ih]; omega
  | right p h ih => rw [flatS_cons, flatS_cons, List.count_append, List.count_append, ih]; omega
/-- In ascending order of weight. -/
def AscM (L : List NdM) : Prop := L.Pairwise fun x y => x.1 ≤ y.1
theorem insRev_desc (x : NdM) : ∀ r : List NdM, r.Pairwise (fun x y => y.1 ≤ x.1) → (insRev mLt x r).Pairwise (fun x y => y.1 ≤ x.1)
  | [], _ => by simp [insRev]
  | y :: r, h => by
    have h' := h
    rw [List.pairwise_cons] at h
    unfold insRev
    split
    · rename_i hxy
      have hxy : x.1 < y.1 := of_decide_eq_true hxy
      rw [List.pairwise_cons]
      refine ⟨fun z hz => ?_, insRev_desc x r h.2⟩
      rcases (insRev_mem mLt x r z).1 hz with e | e
      · rw [e]; omega
      · exact h.1 z e
    · rename_i hxy
      have hxy : ¬ x.1 < y.1 := fun hh => hxy (decide_eq_true hh)
      rw [List.pairwise_cons]
      refine ⟨fun z hz => ?_, h'⟩
      rcases List.mem_cons.1 hz with e | e
      · rw [e]; omega
      · have := h.1 z e; omega
theorem fold_desc : ∀ (l r : List NdM), r.Pairwise (fun x y => y.1 ≤ x.1) → (l.foldl (fun r x => insRev mLt x r) r).Pairwise (fun x y => y.1 ≤ x.1)
  | [], r, h => h
  | x :: l, r, h => fold_desc l _ (insRev_desc x r h)
theorem sortM_asc (M : List NdM) : AscM (sortM M) := by
  unfold AscM sortM sortL
  rw [List.pairwise_reverse]
  exact fold_desc M [] List.Pairwise.nil
theorem lvlM_asc (M : List NdM) : ∀ k, AscM (lvlM M k)
  | 0 => sortM_asc _
  | k + 1 => sortM_asc _
theorem prM_two : ∀ (L : List NdM) (m : NdM), m ∈ prM L → ∃ c ∈ L, ∃ d ∈ L, m.1 = c.1 + d.1
  | [], m, h => by simp [prM] at h
  | [x], m, h => by simp [prM] at h
  | a :: b :: r, m, h => by
    have h2 : m = (a.1 + b.1, a.2 ++ b.2) ∨ m ∈ prM r := by simpa [prM] using h
    rcases h2 with rfl | h2
    · exact ⟨a, by simp, b, by simp, rfl⟩
    · obtain ⟨c, hc, d, hd, e⟩ := prM_two r m h2
      exact ⟨c, by simp [hc], d, by simp [hd], e⟩
theorem prM_asc : ∀ L : List NdM, AscM L → AscM (prM L)
  | [], _ => by simp [prM, AscM]
  | [x], _ => by simp [prM, AscM]
  | a :: b :: r, h => by
    unfold AscM at h
    rw [List.pairwise_cons, List.pairwise_cons] at h
    show List.Pairwise _ ((a.1 + b.1, a.2 ++ b.2) :: prM r)
    rw [List.pairwise_cons]
    refine ⟨fun m hm => ?_, prM_asc r h.2.2⟩
    obtain ⟨c, hc, d, hd, e⟩ := prM_two r m hm
    have h1 := h.1 c (by simp [hc])
    have h2 := h.2.1 d hd
    rw [e]
    show a.1 + b.1 ≤ _
    omega
theorem prM_flat : ∀ (b : Nat) (L : List NdM), b ≤ L.length / 2 → flatS ((prM L).take b) = flatS (L.take (2 * b))
  | 0, L, _ => by simp
  | b + 1, [], h => by simp at h
  | b + 1, [x], h => by simp at h
  | b + 1, x :: y :: r, h => by
    have ih := prM_flat b r (by simp at h; omega)
    show flatS ((x.1 + y.1, x.2 ++ y.2) :: (prM r).take b) = flatS (x :: y :: r.take (2 * b))
    rw [flatS_cons, flatS_cons, flatS_cons, ih]
    simp
theorem prM_over : ∀ (b : Nat) (L : List NdM), b ≤ L.length / 2 → (∀ x ∈ L, 0 < x.1) → ∀ x ∈ L.take (2 * b), ∃ p ∈ (prM L).take b, x.1 < p.1
  | 0, L, _, _, x, hx => by simp at hx
  | b + 1, [], h, _, x, hx => by simp at h
  | b + 1, [y], h, _, x, hx => by simp at h
  | b + 1, u :: v :: r, h, hpos, x, hx => by
    have hx : x ∈ u :: v :: r.take (2 * b) := hx
    have hu := hpos u (by simp)
    have hv := hpos v (by simp)
    show ∃ p ∈ (u.1 + v.1, u.2 ++ v.2) :: (prM r).take b, x.1 < p.1
    rcases List.mem_cons.1 hx with rfl | hx
    · exact ⟨_, List.mem_cons_self .., by show x.1 < x.1 + v.1; omega⟩
    rcases List.mem_cons.1 hx with rfl | hx
    · exact ⟨_, List.mem_cons_self .., by show x.1 < u.1 + x.1; omega⟩
    · obtain ⟨p, hp, e⟩ := prM_over b r (by simp at h; omega) (fun z hz => hpos z (by simp [hz])) x hx
      exact ⟨p, List.mem_cons_of_mem _ hp, e⟩
theorem lvlM_pos {M : List NdM} (h : ∀ x ∈ M, 0 < x.1) : ∀ k, ∀ x ∈ lvlM M k, 0 < x.1
  | 0, x, hx => h x ((sortL_mem mLt M x).1 hx)
  | k + 1, x, hx => by
    have hx := (sortL_mem mLt (M ++ prM (lvlM M k)) x).1 hx
    rcases List.mem_append.1 hx with e | e
    · exact h x e
    · obtain ⟨c, hc, d, hd, e⟩ := prM_two _ x e
      have := lvlM_pos h k c hc
      omega
/-- How many leaves are chosen in each level: their worth, and how often a symbol is among them. -/
def sumW (f : Nat → Nat) : Nat → Nat
  | 0 => f 0
  | k + 1 => sumW f k + f (k + 1) * 2 ^ (k + 1)
def sumC (M : List NdM) (f : Nat → Nat) (i : Nat) : Nat → Nat
  | 0 => (flatS ((sortM M).take (f 0))).count i
  | k + 1 => sumC M f i k + (flatS ((sortM M).take (f (k + 1)))).count i
theorem sumW_congr {f g : Nat → Nat} : ∀ k, (∀ j, j ≤ k → f j = g j) → sumW f k = sumW g k
  | 0, h => h 0 (Nat.le_refl _)
  | k + 1, h => by
    unfold sumW
    rw [sumW_congr k fun j hj => h j (by omega), h (k + 1) (Nat.le_refl _)]
theorem sumC_congr (M : List NdM) {f g : Nat → Nat} (i : Nat) : ∀ k, (∀ j, j ≤ k → f j = g j) → sumC M f i k = sumC M g i k
  | 0, h => by unfold sumC; rw [h 0 (Nat.le_refl _)]
  | k + 1, h => by
    unfold sumC
    rw [sumC_congr M i k fun j hj => h j (by omega), h (k + 1) (Nat.le_refl _)]
structure Lev (M : List NdM) (f : Nat → Nat) (k m : Nat) : Prop where
  mono : ∀ j, j < k → f j ≤ f (j + 1)
  few : ∀ j, j ≤ k → f j ≤ M.length
  worth : sumW f k = m * 2 ^ k
  count : ∀ i, (flatS ((lvlM M k).take m)).count i = sumC M f i k
  top : ∀ x ∈ (sortM M).take (f k), x ∈ (lvlM M k).take m
/-- The first m nodes of a level hold, of each level below, the lightest leaves: no fewer the higher. -/
theorem levels {M : List NdM} (hpos : ∀ x ∈ M, 0 < x.1) : ∀ k m, m ≤ (lvlM M k).length → ∃ f, Lev M f k m
  | 0, m, hm => by
    have hm : m ≤ (sortL mLt M).length := hm
    rw [sortL_len] at hm
    exact ⟨fun _ => m, fun j hj => by omega, fun j hj => hm, by simp [sumW], fun i => rfl, fun x hx => hx⟩
  | k + 1, m, hm => by
    have hP := prM_asc _ (lvlM_asc M k)
    have hil := sortL_il mLt M (prM (lvlM M k)) (hP.imp fun {x y} h => decide_eq_false (by omega))
    obtain ⟨a, b, hab, ha, hb, h1, h2⟩ := hil.split m hm
    have haM : a ≤ M.length := by rw [sortL_len] at ha; exact ha
    have hb2 : b ≤ (lvlM M k).length / 2 := by rw [prM_len] at hb; exact hb
    obtain ⟨f, hf⟩ := levels hpos k (2 * b) (by omega)
    have hfa : f k ≤ a := by
      rcases Nat.lt_or_ge a (f k) with hlt | hge
      · exfalso
        have haA : a < (sortL mLt M).length := by have := hf.few k (Nat.le_refl _); rw [sortL_len]; omega
        have hx1 : (sortL mLt M)[a] ∈ (sortM M).take (f k) := List.mem_take_iff_getElem.2 ⟨a, by show a < min (f k) (sortL mLt M).length; omega, rfl⟩
        obtain ⟨p, hp, hxp⟩ := prM_over b _ hb2 (lvlM_pos hpos k) _ (hf.top _ hx1)
        have hx2 : (sortL mLt M)[a] ∈ (sortL mLt M).drop a := by rw [List.drop_eq_getElem_cons haA]; exact List.mem_cons_self ..
        have hasc : AscM (lvlM M (k + 1)) := lvlM_asc M (k + 1)
        unfold AscM at hasc
        rw [← List.take_append_drop m (lvlM M (k + 1)), List.pairwise_append] at hasc
        have := hasc.2.2 p ((h1.mem p).2 (.inr hp)) _ ((h2.mem _).2 (.inl hx2))
        omega
      · exact hge
    refine ⟨fun j => if j ≤ k then f j else a, ?_, ?_, ?_, ?_, ?_⟩
    · intro j hj
      by_cases e : j = k
      · subst e
        simp only [Nat.le_refl, if_true, show ¬ j + 1 ≤ j by omega, if_false]
        exact hfa
      · have := hf.mono j (by omega)
        simp only [show j ≤ k by omega, show j + 1 ≤ k by omega, if_true]
        exact this
    · intro j hj
      by_cases e : j ≤ k
      · simp only [e, if_true]; exact hf.few j e
      · simp only [e, if_false]; exact haM
    · unfold sumW
      rw [sumW_congr (g := f) k (fun j hj => if_pos hj), hf.worth, if_neg (by omega), ← hab, Nat.add_mul, Nat.pow_succ]
      have : 2 * b * 2 ^ k = b * (2 ^ k * 2) := by rw [Nat.mul_comm 2 b, Nat.mul_assoc, Nat.mul_comm 2]
      omega
    · intro i
      unfold sumC
      rw [sumC_congr M (g := f) i k (fun j hj => if_pos hj), ← hf.count i, if_neg (by omega)]
      show (flatS ((sortL mLt (M ++ prM (lvlM M k))).take m)).count i = _
      rw [h1.cnt i, prM_flat b _ hb2]
      exact Nat.add_comm _ _
    · intro x hx
      rw [if_neg (by omega)] at hx
      exact (h1.mem x).2 (.inl hx)
end Go.Proofs.Ytcacnidlfjglbaa
