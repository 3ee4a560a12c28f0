import Derived.Test.YtacgnadhpgkcmaaDoorHufL
import Derived.Test.YtacgnadhpgkcmaaDoorHufP
/- Plain: package-merge: which leaves the lightest nodes of a level hold. No program in it. -/
namespace Go.Proofs.YtacgnadhpgkcmaaDoor
open Go.RowKit Go.Conc
set_option linter.unusedVariables false
/-- S holds A's elements and P's, each in their order. -/
inductive IL {α : Type} : List α → List α → List α → Prop
  | nil : IL [] [] []
  | left {A P S : List α} (a : α) : IL A P S → IL (a :: A) P (a :: S)
  | right {A P S : List α} (p : α) : IL A P S → IL A (p :: P) (p :: S)
section
variable {α : Type}
theorem IL.left_only : ∀ A : List α, IL A [] A
  | [] => .nil
  | a :: A => .left a (left_only A)
theorem IL.put (lt : α → α → Bool) {A P S : List α} (h : IL A P S) (x : α) (hx : ∀ y ∈ P, lt x y = false) : IL A (x :: P) (insRev lt x S) := by
  induction h with
  | nil => exact .right x .nil
  | left a h ih =>
    unfold insRev
    split
    · exact .left a (ih hx)
    · exact .right x (.left a h)
  | right p h ih =>
    unfold insRev
    rw [if_neg (by simp [hx p (List.mem_cons_self ..)])]
    exact .right x (.right p h)
theorem IL.fold (lt : α → α → Bool) : ∀ (P : List α) {Q A r : List α}, IL A Q r → P.Pairwise (fun x y => lt y x = false) → (∀ q ∈ Q, ∀ p ∈ P, lt p q = false) → IL A (P.reverse ++ Q) (P.foldl (fun r x => insRev lt x r) r)
  | [], Q, A, r, h, _, _ => by simpa using h
  | p :: P, Q, A, r, h, hp, hq => by
    rw [List.foldl_cons, List.reverse_cons, List.append_assoc]
    rw [List.pairwise_cons] at hp
    refine IL.fold lt P (h.put lt p fun y hy => hq y hy p (List.mem_cons_self ..)) hp.2 fun q hq' x hx => ?_
    rcases List.mem_cons.1 hq' with rfl | h'
    · exact hp.1 x hx
    · exact hq q h' x (List.mem_cons_of_mem _ hx)
theorem IL.snocL {A P S : List α} (h : IL A P S) (a : α) : IL (A ++ [a]) P (S ++ [a]) := by
  induction h with
  | nil => exact .left a .nil
  | left b h ih => exact .left b ih
  | right p h ih => exact .right p ih
theorem IL.snocR {A P S : List α} (h : IL A P S) (a : α) : IL A (P ++ [a]) (S ++ [a]) := by
  induction h with
  | nil => exact .right a .nil
  | left b h ih => exact .left b ih
  | right p h ih => exact .right p ih
theorem IL.rev {A P S : List α} (h : IL A P S) : IL A.reverse P.reverse S.reverse := by
  induction h with
  | nil => exact .nil
  | left b h ih => rw [List.reverse_cons, List.reverse_cons]; exact ih.snocL b
  | right p h ih => rw [List.reverse_cons, List.reverse_cons]; exact ih.snocR p
/-- What is sorted and comes behind is laid between. -/
theorem sortL_il (lt : α → α → Bool) (M P : List α) (hP : P.Pairwise (fun x y => lt y x = false)) : IL (sortL lt M) P (sortL lt (M ++ P)) := by
  unfold sortL
  rw [List.foldl_append]
  have := (IL.fold lt P (IL.left_only (M.foldl (fun r x => insRev lt x r) [])) hP (fun q hq => by simp at hq)).rev
  simpa using this
theorem IL.split {A P S : List α} (h : IL A P S) : ∀ m, m ≤ S.length → ∃ a b, a + b = m ∧ a ≤ A.length ∧ b ≤ P.length ∧ IL (A.take a) (P.take b) (S.take m) ∧ IL (A.drop a) (P.drop b) (S.drop m) := by
  induction h with
  | nil => intro m hm; exact ⟨0, 0, by simp at hm; omega, Nat.le_refl _, Nat.le_refl _, by simpa using IL.nil, by simpa using IL.nil⟩
  | @left A P S x h ih =>
    intro m hm
    cases m with
    | zero => exact ⟨0, 0, rfl, Nat.zero_le _, Nat.zero_le _, .nil, .left x h⟩
    | succ m =>
      obtain ⟨a, b, h1, h2, h3, h4, h5⟩ := ih m (by simpa using hm)
      exact ⟨a + 1, b, by omega, by simpa using h2, h3, .left x h4, h5⟩
  | @right A P S x h ih =>
    intro m hm
    cases m with
    | zero => exact ⟨0, 0, rfl, Nat.zero_le _, Nat.zero_le _, .nil, .right x h⟩
    | succ m =>
      obtain ⟨a, b, h1, h2, h3, h4, h5⟩ := ih m (by simpa using hm)
      exact ⟨a, b + 1, by omega, h2, by simpa using h3, .right x h4, h5⟩
theorem IL.mem {A P S : List α} (h : IL A P S) (x : α) : x ∈ S ↔ x ∈ A ∨ x ∈ P := by
  induction h with
  | nil => simp
  | left a h ih => simp only [List.mem_cons, ih, or_assoc]
  | right p h ih => simp only [List.mem_cons, ih]; constructor <;> (intro h; rcases h with h | h | h <;> simp [h])
end
theorem flatS_cons (c : NdM) (C : List NdM) : flatS (c :: C) = c.2 ++ flatS C := by simp [flatS]
theorem IL.cnt {A P S : List NdM} (h : IL A P S) (i : Nat) : (flatS S).count i = (flatS A).count i + (flatS P).count i := by
  induction h with
  | nil => rfl
  | left a h ih => rw [flatS_cons, flatS_cons, List.count_append, List.count_append, ih]; omega
  | right p h ih => rw [flatS_cons, flatS_cons, List.count_append, List.count_append, ih]; omega
/-- In ascending order of weight. -/
def AscM (L : List NdM) : Prop := L.Pairwise fun x y => x.1 ≤ y.1
theorem insRev_desc (x : NdM) : ∀ r : List NdM, r.Pairwise (fun x y => y.1 ≤ x.1) → (insRev mLt x r).Pairwise (fun x y => y.1 ≤ x.1)
  | [], _ => by simp [insRev]
  | y :: r, h => by
    have h' := h
    rw [List.pairwise_cons] at h
    unfold insRev
    split
    · rename_i hxy
      have hxy : x.1 < y.1 := of_decide_eq_true hxy
      rw [List.pairwise_cons]
      refine ⟨fun z hz => ?_, insRev_desc x r h.2⟩
      rcases (insRev_mem mLt x r z).1 hz with e | e
      · rw [e]; omega
      · exact h.1 z e
    · rename_i hxy
      have hxy : ¬ x.1 < y.1 := fun hh => hxy (decide_eq_true hh)
      rw [List.pairwise_cons]
      refine ⟨fun z hz => ?_, h'⟩
      rcases List.mem_cons.1 hz with e | e
      · rw [e]; omega
      · have := h.1 z e; omega
theorem fold_desc : ∀ (l r : List NdM), r.Pairwise (fun x y => y.1 ≤ x.1) → (l.foldl (fun r x => insRev mLt x r) r).Pairwise (fun x y => y.1 ≤ x.1)
  | [], r, h => h
  | x :: l, r, h => fold_desc l _ (insRev_desc x r h)
theorem sortM_asc (M : List NdM) : AscM (sortM M) := by
  unfold AscM sortM sortL
  rw [List.pairwise_reverse]
  exact fold_desc M [] List.Pairwise.nil
theorem lvlM_asc (M : List NdM) : ∀ k, AscM (lvlM M k)
  | 0 => sortM_asc _
  | k + 1 => sortM_asc _
theorem prM_two : ∀ (L : List NdM) (m : NdM), m ∈ prM L → ∃ c ∈ L, ∃ d ∈ L, m.1 = c.1 + d.1
  | [], m, h => by simp [prM] at h
  | [x], m, h => by simp [prM] at h
  | a :: b :: r, m, h => by
    have h2 : m = (a.1 + b.1, a.2 ++ b.2) ∨ m ∈ prM r := by simpa [prM] using h
    rcases h2 with rfl | h2
    · exact ⟨a, by simp, b, by simp, rfl⟩
    · obtain ⟨c, hc, d, hd, e⟩ := prM_two r m h2
      exact ⟨c, by simp [hc], d, by simp [hd], e⟩
theorem prM_asc : ∀ L : List NdM, AscM L → AscM (prM L)
  | [], _ => by simp [prM, AscM]
  | [x], _ => by simp [prM, AscM]
  | a :: b :: r, h => by
    unfold AscM at h
    rw [List.pairwise_cons, List.pairwise_cons] at h
    show List.Pairwise _ ((a.1 + b.1, a.2 ++ b.2) :: prM r)
    rw [List.pairwise_cons]
    refine ⟨fun m hm => ?_, prM_asc r h.2.2⟩
    obtain ⟨c, hc, d, hd, e⟩ := prM_two r m hm
    have h1 := h.1 c (by simp [hc])
    have h2 := h.2.1 d hd
    rw [e]
    show a.1 + b.1 ≤ _
    omega
theorem prM_flat : ∀ (b : Nat) (L : List NdM), b ≤ L.length / 2 → flatS ((prM L).take b) = flatS (L.take (2 * b))
  | 0, L, _ => by simp
  | b + 1, [], h => by simp at h
  | b + 1, [x], h => by simp at h
  | b + 1, x :: y :: r, h => by
    have ih := prM_flat b r (by simp at h; omega)
    show flatS ((x.1 + y.1, x.2 ++ y.2) :: (prM r).take b) = flatS (x :: y :: r.take (2 * b))
    rw [flatS_cons, flatS_cons, flatS_cons, ih]
    simp
theorem prM_over : ∀ (b : Nat) (L : List NdM), b ≤ L.length / 2 → (∀ x ∈ L, 0 < x.1) → ∀ x ∈ L.take (2 * b), ∃ p ∈ (prM L).take b, x.1 < p.1
  | 0, L, _, _, x, hx => by simp at hx
  | b + 1, [], h, _, x, hx => by simp at h
  | b + 1, [y], h, _, x, hx => by simp at h
  | b + 1, u :: v :: r, h, hpos, x, hx => by
    have hx : x ∈ u :: v :: r.take (2 * b) := hx
    have hu := hpos u (by simp)
    have hv := hpos v (by simp)
    show ∃ p ∈ (u.1 + v.1, u.2 ++ v.2) :: (prM r).take b, x.1 < p.1
    rcases List.mem_cons.1 hx with rfl | hx
    · exact ⟨_, List.mem_cons_self .., by show x.1 < x.1 + v.1; omega⟩
    rcases List.mem_cons.1 hx with rfl | hx
    · exact ⟨_, List.mem_cons_self .., by show x.1 < u.1 + x.1; omega⟩
    · obtain ⟨p, hp, e⟩ := prM_over b r (by simp at h; omega) (fun z hz => hpos z (by simp [hz])) x hx
      exact ⟨p, List.mem_cons_of_mem _ hp, e⟩
theorem lvlM_pos {M : List NdM} (h : ∀ x ∈ M, 0 < x.1) : ∀ k, ∀ x ∈ lvlM M k, 0 < x.1
  | 0, x, hx => h x ((sortL_mem mLt M x).1 hx)
  | k + 1, x, hx => by
    have hx := (sortL_mem mLt (M ++ prM (lvlM M k)) x).1 hx
    rcases List.mem_append.1 hx with e | e
    · exact h x e
    · obtain ⟨c, hc, d, hd, e⟩ := prM_two _ x e
      have := lvlM_pos h k c hc
      omega
/-- How many leaves are chosen in each level: their worth, and how often a symbol is among them. -/
def sumW (f : Nat → Nat) : Nat → Nat
  | 0 => f 0
  | k + 1 => sumW f k + f (k + 1) * 2 ^ (k + 1)
def sumC (M : List NdM) (f : Nat → Nat) (i : Nat) : Nat → Nat
  | 0 => (flatS ((sortM M).take (f 0))).count i
  | k + 1 => sumC M f i k + (flatS ((sortM M).take (f (k + 1)))).count i
theorem sumW_congr {f g : Nat → Nat} : ∀ k, (∀ j, j ≤ k → f j = g j) → sumW f k = sumW g k
  | 0, h => h 0 (Nat.le_refl _)
  | k + 1, h => by
    unfold sumW
    rw [sumW_congr k fun j hj => h j (by omega), h (k + 1) (Nat.le_refl _)]
theorem sumC_congr (M : List NdM) {f g : Nat → Nat} (i : Nat) : ∀ k, (∀ j, j ≤ k → f j = g j) → sumC M f i k = sumC M g i k
  | 0, h => by unfold sumC; rw [h 0 (Nat.le_refl _)]
  | k + 1, h => by
    unfold sumC
    rw [sumC_congr M i k fun j hj => h j (by omega), h (k + 1) (Nat.le_refl _)]
structure Lev (M : List NdM) (f : Nat → Nat) (k m : Nat) : Prop where
  mono : ∀ j, j < k → f j ≤ f (j + 1)
  few : ∀ j, j ≤ k → f j ≤ M.length
  worth : sumW f k = m * 2 ^ k
  count : ∀ i, (flatS ((lvlM M k).take m)).count i = sumC M f i k
  top : ∀ x ∈ (sortM M).take (f k), x ∈ (lvlM M k).take m
/-- The first m nodes of a level hold, of each level below, the lightest leaves: no fewer the higher. -/
theorem levels {M : List NdM} (hpos : ∀ x ∈ M, 0 < x.1) : ∀ k m, m ≤ (lvlM M k).length → ∃ f, Lev M f k m
  | 0, m, hm => by
    have hm : m ≤ (sortL mLt M).length := hm
    rw [sortL_len] at hm
    exact ⟨fun _ => m, fun j hj => by omega, fun j hj => hm, by simp [sumW], fun i => rfl, fun x hx => hx⟩
  | k + 1, m, hm => by
    have hP := prM_asc _ (lvlM_asc M k)
    have hil := sortL_il mLt M (prM (lvlM M k)) (hP.imp fun {x y} h => decide_eq_false (by omega))
    obtain ⟨a, b, hab, ha, hb, h1, h2⟩ := hil.split m hm
    have haM : a ≤ M.length := by rw [sortL_len] at ha; exact ha
    have hb2 : b ≤ (lvlM M k).length / 2 := by rw [prM_len] at hb; exact hb
    obtain ⟨f, hf⟩ := levels hpos k (2 * b) (by omega)
    have hfa : f k ≤ a := by
      rcases Nat.lt_or_ge a (f k) with hlt | hge
      · exfalso
        have haA : a < (sortL mLt M).length := by have := hf.few k (Nat.le_refl _); rw [sortL_len]; omega
        have hx1 : (sortL mLt M)[a] ∈ (sortM M).take (f k) := List.mem_take_iff_getElem.2 ⟨a, by show a < min (f k) (sortL mLt M).length; omega, rfl⟩
        obtain ⟨p, hp, hxp⟩ := prM_over b _ hb2 (lvlM_pos hpos k) _ (hf.top _ hx1)
        have hx2 : (sortL mLt M)[a] ∈ (sortL mLt M).drop a := by rw [List.drop_eq_getElem_cons haA]; exact List.mem_cons_self ..
        have hasc : AscM (lvlM M (k + 1)) := lvlM_asc M (k + 1)
        unfold AscM at hasc
        rw [← List.take_append_drop m (lvlM M (k + 1)), List.pairwise_append] at hasc
        have := hasc.2.2 p ((h1.mem p).2 (.inr hp)) _ ((h2.mem _).2 (.inl hx2))
        omega
      · exact hge
    refine ⟨fun j => if j ≤ k then f j else a, ?_, ?_, ?_, ?_, ?_⟩
    · intro j hj
      by_cases e : j = k
      · subst e
        simp only [Nat.le_refl, if_true, show ¬ j + 1 ≤ j by omega, if_false]
        exact hfa
      · have := hf.mono j (by omega)
        simp only [show j ≤ k by omega, show j + 1 ≤ k by omega, if_true]
        exact this
    · intro j hj
      by_cases e : j ≤ k
      · simp only [e, if_true]; exact hf.few j e
      · simp only [e, if_false]; exact haM
    · unfold sumW
      rw [sumW_congr (g := f) k (fun j hj => if_pos hj), hf.worth, if_neg (by omega), ← hab, Nat.add_mul, Nat.pow_succ]
      have : 2 * b * 2 ^ k = b * (2 ^ k * 2) := by rw [Nat.mul_comm 2 b, Nat.mul_assoc, Nat.mul_comm 2]
      omega
    · intro i
      unfold sumC
      rw [sumC_congr M (g := f) i k (fun j hj => if_pos hj), ← hf.count i, if_neg (by omega)]
      show (flatS ((sortL mLt (M ++ prM (lvlM M k))).take m)).count i = _
      rw [h1.cnt i, prM_flat b _ hb2]
      exact Nat.add_comm _ _
    · intro x hx
      rw [if_neg (by omega)] at hx
      exact (h1.mem x).2 (.inl hx)
end Go.Proofs.YtacgnadhpgkcmaaDoor
/- Plain: the stable merge of two sorted lists; sorting a list is merging its sorted parts. No program in it. -/
namespace Go.Proofs.YtacgnadhpgkcmaaDoor
open Go.RowKit Go.Conc
set_option linter.unusedVariables false
/-- The stable merge: the left one first where they are alike. -/
def mergeL {α : Type} (lt : α → α → Bool) : List α → List α → List α
  | [], v => v
  | x :: u, [] => x :: u
  | x :: u, y :: v => if lt y x then y :: mergeL lt (x :: u) v else x :: mergeL lt u (y :: v)
theorem mergeL_none {α : Type} (lt : α → α → Bool) (u : List α) : mergeL lt u [] = u := by cases u <;> simp [mergeL]
theorem mergeL_nil {α : Type} (lt : α → α → Bool) (v : List α) : mergeL lt [] v = v := by simp [mergeL]
/-- A merge falls apart where the right part's beginning is lighter than the left part's end, and the left part's beginning is not heavier than the right part's end. -/
theorem merge_split {α : Type} (lt : α → α → Bool) (u2 v2 : List α) : ∀ u1 v1 : List α, (∀ y ∈ v1, ∀ x ∈ u2, lt y x = true) → (∀ x ∈ u1, ∀ y ∈ v2, lt y x = false) → mergeL lt (u1 ++ u2) (v1 ++ v2) = mergeL lt u1 v1 ++ mergeL lt u2 v2
  | [], [], _, _ => by rw [mergeL_nil]; rfl
  | [], y :: v1, h1, h2 => by
    have ih := merge_split lt u2 v2 [] v1 (fun z hz => h1 z (List.mem_cons_of_mem _ hz)) h2
    rw [mergeL_nil] at ih
    rw [mergeL_nil]
    cases u2 with
    | nil => rw [List.nil_append, mergeL_nil, mergeL_nil]
    | cons x u2 =>
      show mergeL lt (x :: u2) (y :: (v1 ++ v2)) = y :: (v1 ++ mergeL lt (x :: u2) v2)
      rw [mergeL, if_pos (h1 y (List.mem_cons_self ..) x (List.mem_cons_self ..)), ← ih]; rfl
  | x :: u1, [], h1, h2 => by
    have ih := merge_split lt u2 v2 u1 [] h1 (fun z hz => h2 z (List.mem_cons_of_mem _ hz))
    rw [mergeL_none] at ih ⊢
    cases v2 with
    | nil => rw [List.append_nil, mergeL_none, mergeL_none]
    | cons y v2 =>
      show mergeL lt (x :: (u1 ++ u2)) (y :: v2) = x :: (u1 ++ mergeL lt u2 (y :: v2))
      rw [mergeL, if_neg (by rw [h2 x (List.mem_cons_self ..) y (List.mem_cons_self ..)]; decide), ← ih]; rfl
  | x :: u1, y :: v1, h1, h2 => by
    show mergeL lt (x :: (u1 ++ u2)) (y :: (v1 ++ v2)) = mergeL lt (x :: u1) (y :: v1) ++ _
    rw [mergeL, mergeL]
    split
    · have ih := merge_split lt u2 v2 (x :: u1) v1 (fun z hz => h1 z (List.mem_cons_of_mem _ hz)) h2
      rw [List.cons_append]
      exact congrArg (y :: ·) ih
    · have ih := merge_split lt u2 v2 u1 (y :: v1) h1 (fun z hz => h2 z (List.mem_cons_of_mem _ hz))
      rw [List.cons_append]
      exact congrArg (x :: ·) ih
theorem mergeL_mem {α : Type} (lt : α → α → Bool) : ∀ (u v : List α) (z : α), z ∈ mergeL lt u v ↔ z ∈ u ∨ z ∈ v
  | [], v, z => by rw [mergeL_nil]; simp
  | x :: u, [], z => by rw [mergeL_none]; simp
  | x :: u, y :: v, z => by
    rw [mergeL]
    split
    · have ih := mergeL_mem lt (x :: u) v z
      simp only [List.mem_cons] at ih ⊢
      rw [ih]
      constructor
      · rintro (h | (h | h) | h) <;> simp [h]
      · rintro ((h | h) | h | h) <;> simp [h]
    · have ih := mergeL_mem lt u (y :: v) z
      simp only [List.mem_cons] at ih ⊢
      rw [ih, or_assoc]
theorem merge_asc : ∀ u v : List NdM, AscM u → AscM v → AscM (mergeL mLt u v)
  | [], v, _, h => by rw [mergeL_nil]; exact h
  | x :: u, [], h, _ => by rw [mergeL_none]; exact h
  | x :: u, y :: v, hu, hv => by
    have hu' := hu
    have hv' := hv
    unfold AscM at hu' hv'
    rw [List.pairwise_cons] at hu' hv'
    rw [mergeL]
    split
    · rename_i hxy
      have hxy : y.1 < x.1 := of_decide_eq_true hxy
      unfold AscM
      rw [List.pairwise_cons]
      refine ⟨fun z hz => ?_, merge_asc (x :: u) v hu hv'.2⟩
      rcases (mergeL_mem mLt _ _ z).1 hz with e | e
      · rcases List.mem_cons.1 e with rfl | e
        · omega
        · have := hu'.1 z e; omega
      · exact hv'.1 z e
    · rename_i hxy
      have hxy : ¬ y.1 < x.1 := fun h => hxy (decide_eq_true h)
      unfold AscM
      rw [List.pairwise_cons]
      refine ⟨fun z hz => ?_, merge_asc u (y :: v) hu'.2 hv⟩
      rcases (mergeL_mem mLt _ _ z).1 hz with e | e
      · exact hu'.1 z e
      · rcases List.mem_cons.1 e with rfl | e
        · omega
        · have := hv'.1 z e; omega
/-- Inserted from the end. -/
def insF (p : NdM) (S : List NdM) : List NdM := (insRev mLt p S.reverse).reverse
theorem insRev_app {α : Type} (lt : α → α → Bool) (p : α) (Q : List α) : ∀ R : List α, insRev lt p (R ++ Q) = if R.all (lt p) then R ++ insRev lt p Q else insRev lt p R ++ Q
  | [] => rfl
  | z :: R => by
    show (if lt p z then z :: insRev lt p (R ++ Q) else p :: z :: (R ++ Q)) = _
    cases h : lt p z with
    | true =>
      rw [if_pos rfl, insRev_app lt p Q R, List.all_cons, h, Bool.true_and]
      split
      · rfl
      · rw [insRev, h]; rfl
    | false =>
      rw [if_neg (by decide), List.all_cons, h, Bool.false_and, if_neg (by decide), insRev, h]; rfl
theorem insF_nil (p : NdM) : insF p [] = [p] := rfl
theorem insF_cons (p y : NdM) (S : List NdM) (h : AscM (y :: S)) : insF p (y :: S) = if p.1 < y.1 then p :: y :: S else y :: insF p S := by
  unfold AscM at h
  rw [List.pairwise_cons] at h
  unfold insF
  rw [List.reverse_cons, insRev_app]
  by_cases hp : p.1 < y.1
  · have ha : S.reverse.all (mLt p) = true := by
      rw [List.all_eq_true]
      intro z hz
      have := h.1 z (List.mem_reverse.1 hz)
      exact decide_eq_true (by omega)
    rw [if_pos hp, if_pos ha]
    have : insRev mLt p [y] = [y, p] := by unfold insRev; rw [if_pos (show mLt p y = true from decide_eq_true hp)]; rfl
    rw [this]
    simp
  · rw [if_neg hp]
    split
    · have : insRev mLt p [y] = [p, y] := by unfold insRev; rw [if_neg (show ¬ mLt p y = true from fun e => hp (of_decide_eq_true e))]
      rw [this]
      rename_i ha
      have hall : insRev mLt p S.reverse = S.reverse ++ [p] := by
        have := insRev_app mLt p [] S.reverse
        rw [List.append_nil, if_pos ha] at this
        exact this
      rw [hall]
      simp
    · simp
theorem merge_ins (p : NdM) : ∀ u v : List NdM, AscM u → AscM v → mergeL mLt u (insF p v) = insF p (mergeL mLt u v)
  | [], v, _, _ => by rw [mergeL_nil, mergeL_nil]
  | x :: u, [], hu, _ => by
    have hu' := hu
    unfold AscM at hu'
    rw [List.pairwise_cons] at hu'
    have ih := merge_ins p u [] hu'.2 List.Pairwise.nil
    rw [mergeL_none, insF_nil] at ih
    rw [mergeL_none, insF_cons p x u hu, insF_nil, mergeL, mergeL_none, ih]
    by_cases h : p.1 < x.1
    · rw [if_pos h, if_pos (show mLt p x = true from decide_eq_true h)]
    · rw [if_neg h, if_neg (show ¬ mLt p x = true from fun e => h (of_decide_eq_true e))]
  | x :: u, y :: v, hu, hv => by
    have hu' := hu
    have hv' := hv
    unfold AscM at hu' hv'
    rw [List.pairwise_cons] at hu' hv'
    have hM := merge_asc _ _ hu hv
    have ih1 := merge_ins p u (y :: v) hu'.2 hv
    have ih2 := merge_ins p (x :: u) v hu hv'.2
    rw [insF_cons p y v hv] at ih1 ⊢
    have hL : mergeL mLt (x :: u) (y :: v) = if mLt y x then y :: mergeL mLt (x :: u) v else x :: mergeL mLt u (y :: v) := by rw [mergeL]
    by_cases hyx : y.1 < x.1
    · have b1 : mLt y x = true := decide_eq_true hyx
      rw [hL, if_pos b1] at hM
      rw [hL, if_pos b1, insF_cons p y _ hM]
      by_cases hp : p.1 < y.1
      · rw [if_pos hp, if_pos hp, mergeL, if_pos (show mLt p x = true from decide_eq_true (by omega)), hL, if_pos b1]
      · rw [if_neg hp, if_neg hp, mergeL, if_pos b1, ih2]
    · have b1 : ¬ mLt y x = true := fun e => hyx (of_decide_eq_true e)
      rw [hL, if_neg b1] at hM
      rw [hL, if_neg b1, insF_cons p x _ hM]
      by_cases hp : p.1 < y.1
      · rw [if_pos hp] at ih1 ⊢
        rw [mergeL, hL, if_neg b1]
        by_cases hpx : p.1 < x.1
        · rw [if_pos hpx, if_pos (show mLt p x = true from decide_eq_true hpx)]
        · rw [if_neg hpx, if_neg (show ¬ mLt p x = true from fun e => hpx (of_decide_eq_true e)), ih1]
      · rw [if_neg hp] at ih1 ⊢
        rw [mergeL, if_neg b1, if_neg (by omega), ih1]
theorem sortM_snoc (L : List NdM) (p : NdM) : sortM (L ++ [p]) = insF p (sortM L) := by
  unfold sortM sortL insF
  rw [List.foldl_append, List.reverse_reverse]; rfl
/-- Sorting is merging the sorted parts. -/
theorem sort_merge (A : List NdM) : ∀ n (B : List NdM), B.length = n → sortM (A ++ B) = mergeL mLt (sortM A) (sortM B)
  | 0, B, h => by
    obtain rfl : B = [] := List.length_eq_zero_iff.1 h
    rw [List.append_nil]
    exact (mergeL_none mLt _).symm
  | n + 1, B, h => by
    obtain ⟨C, p, rfl⟩ : ∃ C p, B = C ++ [p] := by
      have hne : B ≠ [] := fun e => by rw [e] at h; simp at h
      exact ⟨B.dropLast, B.getLast hne, (List.dropLast_concat_getLast hne).symm⟩
    rw [← List.append_assoc, sortM_snoc, sortM_snoc, sort_merge A n C (by simpa using h), merge_ins p _ _ (sortM_asc A) (sortM_asc C)]
end Go.Proofs.YtacgnadhpgkcmaaDoor
/- Plain: package-merge: the lengths that come of it are a code's: Kraft's sum. No program in it. -/
namespace Go.Proofs.YtacgnadhpgkcmaaDoor
open Go.RowKit Go.Conc
set_option linter.unusedVariables false
/-- In how many levels the r-th leaf is chosen, and what it is worth there. -/
def cntR (f : Nat → Nat) (r : Nat) : Nat → Nat
  | 0 => if r < f 0 then 1 else 0
  | k + 1 => cntR f r k + if r < f (k + 1) then 1 else 0
def worR (f : Nat → Nat) (r : Nat) : Nat → Nat
  | 0 => if r < f 0 then 1 else 0
  | k + 1 => worR f r k + if r < f (k + 1) then 2 ^ (k + 1) else 0
theorem cntR_le (f : Nat → Nat) (r : Nat) : ∀ k, cntR f r k ≤ k + 1
  | 0 => by unfold cntR; split <;> omega
  | k + 1 => by have := cntR_le f r k; unfold cntR; split <;> omega
theorem cntR_zero {f : Nat → Nat} {r : Nat} : ∀ k, (∀ j, j < k → f j ≤ f (j + 1)) → f k ≤ r → cntR f r k = 0 ∧ worR f r k = 0
  | 0, _, h => by unfold cntR worR; rw [if_neg (by omega)]; exact ⟨rfl, rfl⟩
  | k + 1, hm, h => by
    have h1 := hm k (by omega)
    have := cntR_zero k (fun j hj => hm j (by omega)) (show f k ≤ r by omega)
    unfold cntR worR
    rw [if_neg (by omega), if_neg (by omega), this.1, this.2]
    exact ⟨rfl, rfl⟩
/-- The levels of a leaf are the topmost ones. -/
theorem worR_eq {f : Nat → Nat} {r : Nat} : ∀ k, (∀ j, j < k → f j ≤ f (j + 1)) → worR f r k + 2 ^ (k + 1 - cntR f r k) = 2 ^ (k + 1)
  | 0, _ => by unfold worR cntR; split <;> decide
  | k + 1, hm => by
    have hm' : ∀ j, j < k → f j ≤ f (j + 1) := fun j hj => hm j (by omega)
    by_cases h : r < f (k + 1)
    · have ih := worR_eq (r := r) k hm'
      have hc := cntR_le f r k
      unfold worR cntR
      rw [if_pos h, if_pos h, show k + 1 + 1 - (cntR f r k + 1) = k + 1 - cntR f r k by omega, Nat.pow_succ 2 (k + 1)]
      omega
    · have := cntR_zero (f := f) (r := r) (k + 1) hm (by omega)
      rw [this.1, this.2]
      simp
def sumR (g : Nat → Nat) : Nat → Nat
  | 0 => 0
  | n + 1 => sumR g n + g n
theorem sumR_add (g h : Nat → Nat) : ∀ n, sumR (fun r => g r + h r) n = sumR g n + sumR h n
  | 0 => rfl
  | n + 1 => by unfold sumR; rw [sumR_add g h n]; omega
theorem sumR_const (c : Nat) : ∀ n, sumR (fun _ => c) n = n * c
  | 0 => by simp [sumR]
  | n + 1 => by unfold sumR; rw [sumR_const c n, Nat.succ_mul]
theorem sumR_cut (a c : Nat) : ∀ n, sumR (fun r => if r < a then c else 0) n = min a n * c
  | 0 => by simp [sumR]
  | n + 1 => by
    unfold sumR
    rw [sumR_cut a c n]
    by_cases h : n < a
    · rw [if_pos h, show min a n = n by omega, show min a (n + 1) = n + 1 by omega, Nat.succ_mul]
    · rw [if_neg h, show min a n = a by omega, show min a (n + 1) = a by omega, Nat.add_zero]
theorem sumR_congr {g h : Nat → Nat} : ∀ n, (∀ r, r < n → g r = h r) → sumR g n = sumR h n
  | 0, _ => rfl
  | n + 1, e => by unfold sumR; rw [sumR_congr n fun r hr => e r (by omega), e n (by omega)]
theorem sumR_ge {g : Nat → Nat} : ∀ n r, r < n → g r ≤ sumR g n
  | 0, r, h => by omega
  | n + 1, r, h => by
    unfold sumR
    by_cases e : r = n
    · subst e; omega
    · have := sumR_ge (g := g) n r (by omega); omega
theorem sumR_ge2 {g : Nat → Nat} : ∀ n r q, r < n → q < n → r ≠ q → g r + g q ≤ sumR g n
  | 0, r, q, h, _, _ => by omega
  | n + 1, r, q, h, h2, hne => by
    unfold sumR
    by_cases e : r = n
    · subst e; have := sumR_ge (g := g) r q (by omega); omega
    · by_cases e2 : q = n
      · subst e2; have := sumR_ge (g := g) q r (by omega); omega
      · have := sumR_ge2 (g := g) n r q (by omega) (by omega) hne; omega
theorem sumR_worth (f : Nat → Nat) (n : Nat) : ∀ k, (∀ j, j ≤ k → f j ≤ n) → sumR (fun r => worR f r k) n = sumW f k
  | 0, h => by
    have := sumR_cut (f 0) 1 n
    rw [show min (f 0) n = f 0 by have := h 0 (Nat.le_refl _); omega] at this
    simpa [worR, sumW] using this
  | k + 1, h => by
    have e : (fun r => worR f r (k + 1)) = fun r => worR f r k + (fun r => if r < f (k + 1) then 2 ^ (k + 1) else 0) r := rfl
    rw [e, sumR_add, sumR_worth f n k (fun j hj => h j (by omega)), sumR_cut, show min (f (k + 1)) n = f (k + 1) by have := h (k + 1) (Nat.le_refl _); omega]
    rfl
/-- Kraft's sum of the lengths of n symbols, the highest level being k: exactly 1. -/
theorem kraft_levels {f : Nat → Nat} {n k : Nat} (hn : 1 ≤ n) (hm : ∀ j, j < k → f j ≤ f (j + 1)) (hf : ∀ j, j ≤ k → f j ≤ n) (hw : sumW f k = (2 * n - 2) * 2 ^ k) :
    sumR (fun r => 2 ^ (k + 1 - cntR f r k)) n = 2 ^ (k + 1) := by
  have h1 := sumR_add (fun r => worR f r k) (fun r => 2 ^ (k + 1 - cntR f r k)) n
  rw [sumR_congr (h := fun _ => 2 ^ (k + 1)) n (fun r _ => worR_eq k hm), sumR_const, sumR_worth f n k hf, hw] at h1
  have e1 : (2 * n - 2) * 2 ^ k = (n - 1) * 2 ^ (k + 1) := by
    rw [show 2 * n - 2 = (n - 1) * 2 by omega, Nat.mul_assoc, Nat.pow_succ, Nat.mul_comm 2]
  have e2 : n * 2 ^ (k + 1) = (n - 1) * 2 ^ (k + 1) + 2 ^ (k + 1) := by
    obtain ⟨d, rfl⟩ : ∃ d, n = d + 1 := ⟨n - 1, by omega⟩
    rw [Nat.succ_mul]; rfl
  omega
/-- Every one of two or more symbols gets a code. -/
theorem levels_all {f : Nat → Nat} {n k : Nat} (hn : 2 ≤ n) (hm : ∀ j, j < k → f j ≤ f (j + 1)) (hf : ∀ j, j ≤ k → f j ≤ n) (hw : sumW f k = (2 * n - 2) * 2 ^ k) {r : Nat} (hr : r < n) : 1 ≤ cntR f r k := by
  rcases Nat.eq_zero_or_pos (cntR f r k) with h0 | h
  · exfalso
    have hs := kraft_levels (by omega) hm hf hw
    obtain ⟨q, hq, hne⟩ : ∃ q, q < n ∧ r ≠ q := by
      by_cases e : r = 0
      · exact ⟨1, by omega, by omega⟩
      · exact ⟨0, by omega, e⟩
    have := sumR_ge2 (g := fun r => 2 ^ (k + 1 - cntR f r k)) n r q hr hq hne
    simp only [hs, h0, Nat.sub_zero] at this
    have := Nat.two_pow_pos (k + 1 - cntR f q k)
    omega
  · exact h
/-- A lighter leaf is chosen in no fewer levels. -/
theorem cntR_anti (f : Nat → Nat) {r q : Nat} (h : r ≤ q) : ∀ k, cntR f q k ≤ cntR f r k
  | 0 => by unfold cntR; split <;> split <;> omega
  | k + 1 => by have := cntR_anti f h k; unfold cntR; split <;> split <;> omega
/-- The levels are long enough where the symbols are not too many. -/
theorem lvlM_long (M : List NdM) (h1 : 1 ≤ M.length) : ∀ k, M.length ≤ 2 ^ (k + 1) → 2 * M.length - 2 ≤ (lvlM M k).length := by
  have key : ∀ k e, M.length ≤ e * 2 ^ k → 2 * M.length ≤ (lvlM M k).length + e := by
    intro k
    induction k with
    | zero =>
      intro e he
      show 2 * M.length ≤ (sortL mLt M).length + e
      rw [sortL_len]; omega
    | succ k ih =>
      intro e he
      have := ih (2 * e) (by rw [Nat.pow_succ] at he; calc M.length ≤ e * (2 ^ k * 2) := he
        _ = 2 * e * 2 ^ k := by rw [Nat.mul_comm (2 ^ k) 2, ← Nat.mul_assoc, Nat.mul_comm e 2])
      show 2 * M.length ≤ (sortL mLt (M ++ prM (lvlM M k))).length + e
      rw [sortL_len, List.length_append, prM_len]
      omega
  intro k hk
  have := key k 2 (by rw [Nat.mul_comm, ← Nat.pow_succ]; exact hk)
  omega
end Go.Proofs.YtacgnadhpgkcmaaDoor
/- Plain: package-merge: the lengths of the symbols. No program in it. -/
namespace Go.Proofs.YtacgnadhpgkcmaaDoor
open Go.RowKit Go.Conc
set_option linter.unusedVariables false
section
variable {α : Type}
theorem insRev_perm (lt : α → α → Bool) (x : α) : ∀ l : List α, (insRev lt x l).Perm (x :: l)
  | [] => .refl _
  | y :: l => by
    unfold insRev
    split
    · exact ((insRev_perm lt x l).cons y).trans (.swap x y l)
    · exact .refl _
theorem fold_perm (lt : α → α → Bool) : ∀ l r : List α, (l.foldl (fun r x => insRev lt x r) r).Perm (l ++ r)
  | [], r => .refl _
  | x :: l, r => (fold_perm lt l _).trans (((insRev_perm lt x r).append_left l).trans List.perm_middle)
theorem sortL_perm (lt : α → α → Bool) (l : List α) : (sortL lt l).Perm l := by
  have := fold_perm lt l []
  rw [List.append_nil] at this
  exact (List.reverse_perm _).trans this
end
def posB (l : List Int) (s : Nat) : Bool := decide (0 < l.getD s 0)
def leafOf (l : List Int) (s : Nat) : NdM := ((l.getD s 0).toNat, [s])
theorem lvM_eq (l : List Int) : ∀ k, lvM l k = ((List.range k).filter (posB l)).map (leafOf l)
  | 0 => rfl
  | k + 1 => by
    rw [List.range_succ, List.filter_append, List.map_append, ← lvM_eq l k]
    show (if 0 < l.getD k 0 then lvM l k ++ [((l.getD k 0).toNat, [k])] else lvM l k) = _
    by_cases h : 0 < l.getD k 0
    · have hp : posB l k = true := decide_eq_true h
      rw [if_pos h, List.filter_cons_of_pos hp]; rfl
    · have hp : ¬ posB l k = true := by unfold posB; simpa using h
      rw [if_neg h, List.filter_cons_of_neg hp]; simp
def syM (m : NdM) : Nat := m.2.headD 0
theorem flatS_map : ∀ C : List NdM, (∀ m ∈ C, m.2 = [syM m]) → flatS C = C.map syM
  | [], _ => rfl
  | c :: C, h => by
    rw [flatS_cons, flatS_map C fun m hm => h m (List.mem_cons_of_mem _ hm), h c (List.mem_cons_self ..)]
    rfl
/-- The symbols, from the lightest on. -/
def ranks (l : List Int) (len : Nat) : List Nat := (sortM (lvM l len)).map syM
theorem ranks_perm (l : List Int) (len : Nat) : (ranks l len).Perm ((List.range len).filter (posB l)) := by
  have h := (sortL_perm mLt (lvM l len)).map syM
  have e : (lvM l len).map syM = (List.range len).filter (posB l) := by
    rw [lvM_eq, List.map_map]
    have : syM ∘ leafOf l = id := rfl
    rw [this, List.map_id]
  rw [e] at h
  exact h
theorem ranks_nodup (l : List Int) (len : Nat) : (ranks l len).Nodup := (ranks_perm l len).nodup_iff.2 (List.nodup_range.filter _)
theorem sorted_leaf (l : List Int) (len : Nat) : ∀ m ∈ sortM (lvM l len), m.2 = [syM m] ∧ m.1 = (l.getD (syM m) 0).toNat := fun m hm => by
  have := (sortL_mem mLt _ m).1 hm
  rw [lvM_eq] at this
  obtain ⟨s, _, rfl⟩ := List.mem_map.1 this
  exact ⟨rfl, rfl⟩
theorem flat_ranks (l : List Int) (len a : Nat) : flatS ((sortM (lvM l len)).take a) = (ranks l len).take a := by
  rw [flatS_map _ fun m hm => (sorted_leaf l len m (List.mem_of_mem_take hm)).1]
  unfold ranks
  rw [List.map_take]
theorem count_take : ∀ (B : List Nat), B.Nodup → ∀ (r a : Nat) (hr : r < B.length), (B.take a).count B[r] = if r < a then 1 else 0
  | [], _, r, a, hr => by simp at hr
  | b :: B, h, r, 0, hr => by simp
  | b :: B, h, 0, a + 1, hr => by
    rw [List.nodup_cons] at h
    rw [List.take_succ_cons]
    show (b :: B.take a).count b = _
    rw [List.count_cons_self, List.count_eq_zero.2 fun hm => h.1 (List.mem_of_mem_take hm)]
    simp
  | b :: B, h, r + 1, a + 1, hr => by
    rw [List.nodup_cons] at h
    have hr2 : r < B.length := by simpa using hr
    have ih := count_take B h.2 r a hr2
    rw [List.take_succ_cons]
    show (b :: B.take a).count B[r] = _
    have hne : ¬ b = B[r] := fun e => h.1 (by rw [e]; exact List.getElem_mem hr2)
    rw [List.count_cons, ih]
    simp [hne]
theorem sumC_rank (l : List Int) (len : Nat) (f : Nat → Nat) (r : Nat) (hr : r < (ranks l len).length) : ∀ k, sumC (lvM l len) f (ranks l len)[r] k = cntR f r k
  | 0 => by
    unfold sumC cntR
    rw [flat_ranks, count_take _ (ranks_nodup l len) r _ hr]
  | k + 1 => by
    unfold sumC cntR
    rw [sumC_rank l len f r hr k, flat_ranks, count_take _ (ranks_nodup l len) r _ hr]
theorem sumC_off (l : List Int) (len : Nat) (f : Nat → Nat) (s : Nat) (hs : ¬ s ∈ ranks l len) : ∀ k, sumC (lvM l len) f s k = 0
  | 0 => by
    unfold sumC
    rw [flat_ranks]
    exact List.count_eq_zero.2 fun hm => hs (List.mem_of_mem_take hm)
  | k + 1 => by
    unfold sumC
    rw [sumC_off l len f s hs k, flat_ranks, List.count_eq_zero.2 fun hm => hs (List.mem_of_mem_take hm)]
theorem sum_filter {g : Nat → Nat} {p : Nat → Bool} : ∀ L : List Nat, (∀ x ∈ L, p x = false → g x = 0) → ((L.filter p).map g).sum = (L.map g).sum
  | [], _ => rfl
  | x :: L, h => by
    have ih := sum_filter L fun y hy => h y (List.mem_cons_of_mem _ hy)
    cases e : p x with
    | true => rw [List.filter_cons_of_pos e, List.map_cons, List.map_cons, List.sum_cons, List.sum_cons, ih]
    | false => rw [List.filter_cons_of_neg (by simp [e]), List.map_cons, List.sum_cons, ih, h x (List.mem_cons_self ..) e, Nat.zero_add]
theorem sum_sumR (g : Nat → Nat) (B : List Nat) : ∀ n, n ≤ B.length → ((B.take n).map g).sum = sumR (fun r => g (B.getD r 0)) n
  | 0, _ => by simp [sumR]
  | n + 1, h => by
    have hn : n < B.length := by omega
    rw [List.take_succ_eq_append_getElem hn, List.map_append, List.sum_append_nat, sum_sumR g B n (by omega)]
    show _ = sumR (fun r => g (B.getD r 0)) n + g (B.getD n 0)
    simp [List.getD, hn]
theorem sumR_mul (c : Nat) (g : Nat → Nat) : ∀ n, sumR (fun r => c * g r) n = c * sumR g n
  | 0 => rfl
  | n + 1 => by unfold sumR; rw [sumR_mul c g n, Nat.mul_add]
/-- What a length is worth. -/
def wtL (n : Nat) : Nat := if 1 ≤ n ∧ n ≤ 15 then 2 ^ (15 - n) else 0
theorem kraft_cons (x : Nat) (L : List Int) : ∀ m, kraftS ((x : Int) :: L) m = kraftS L m + if 1 ≤ x ∧ x < m then 2 ^ (15 - x) else 0
  | 0 => by simp [kraftS]
  | m + 1 => by
    have ih := kraft_cons x L m
    have ht : tal ((x : Int) :: L) m = tal L m + if 1 ≤ x ∧ x = m then 1 else 0 := by
      unfold tal
      by_cases h0 : m = 0
      · rw [if_pos h0, if_pos h0, if_neg (by omega)]
      · rw [if_neg h0, if_neg h0]
        by_cases e : x = m
        · subst e; rw [List.count_cons_self, if_pos ⟨by omega, rfl⟩]
        · rw [List.count_cons_of_ne (by omega), if_neg (fun h => e h.2)]; rfl
    unfold kraftS
    rw [ih, ht]
    by_cases h1 : 1 ≤ x ∧ x < m
    · rw [if_pos h1, if_neg (by omega), if_pos (by omega), Nat.add_zero]; omega
    · by_cases h2 : 1 ≤ x ∧ x = m
      · obtain ⟨h3, rfl⟩ := h2
        rw [if_neg h1, if_pos ⟨h3, rfl⟩, if_pos (by omega), Nat.add_mul]; omega
      · rw [if_neg h1, if_neg h2, if_neg (by omega), Nat.add_zero, Nat.add_zero, Nat.add_zero]
theorem kraft_sum : ∀ S : List Nat, kraftS (S.map fun s => ((s : Nat) : Int)) 16 = (S.map wtL).sum
  | [] => by decide
  | x :: S => by
    rw [List.map_cons, kraft_cons, kraft_sum S, List.map_cons, List.sum_cons, Nat.add_comm]
    congr 1
    unfold wtL
    by_cases h : 1 ≤ x ∧ x < 16
    · rw [if_pos h, if_pos (by omega)]
    · rw [if_neg h, if_neg (by omega)]
/-- The length of a symbol. -/
def lenS (l : List Int) (len most : Nat) (s : Nat) : Nat := (flatS (chosen (lvM l len) most)).count s
theorem pkg {l : List Int} {len k : Nat} (h15 : k + 1 ≤ 15) (h2 : 2 ≤ (lvM l len).length) (hm : (lvM l len).length ≤ 2 ^ (k + 1)) :
    (∀ s, s < len → 0 < l.getD s 0 → 1 ≤ lenS l len (k + 1) s ∧ lenS l len (k + 1) s ≤ k + 1) ∧ (∀ s, ¬ (s < len ∧ 0 < l.getD s 0) → lenS l len (k + 1) s = 0) ∧
    (∀ s q, s < len → q < len → 0 < l.getD s 0 → l.getD s 0 < l.getD q 0 → lenS l len (k + 1) q ≤ lenS l len (k + 1) s) ∧ codeB ((List.range len).map fun s => ((lenS l len (k + 1) s : Nat) : Int)) = true := by
  have hpos : ∀ x ∈ lvM l len, 0 < x.1 := fun x hx => by
    rw [lvM_eq] at hx
    obtain ⟨s, hs, rfl⟩ := List.mem_map.1 hx
    have := of_decide_eq_true (List.mem_filter.1 hs).2
    show 0 < (l.getD s 0).toNat
    omega
  obtain ⟨f, hf⟩ := levels hpos k (2 * (lvM l len).length - 2) (lvlM_long _ (by omega) k hm)
  have hrl : (ranks l len).length = (lvM l len).length := by unfold ranks sortM; rw [List.length_map, sortL_len]
  generalize hn : (lvM l len).length = n at *
  have hS : ∀ s, lenS l len (k + 1) s = sumC (lvM l len) f s k := fun s => by
    have := hf.count s
    rw [← this]
    unfold lenS chosen
    rw [hn]; rfl
  have hmem : ∀ s, s ∈ ranks l len ↔ s < len ∧ 0 < l.getD s 0 := fun s => by
    rw [(ranks_perm l len).mem_iff, List.mem_filter, List.mem_range]
    unfold posB
    rw [decide_eq_true_eq]
  have hR : ∀ r (hr : r < (ranks l len).length), lenS l len (k + 1) (ranks l len)[r] = cntR f r k := fun r hr => (hS _).trans (sumC_rank l len f r hr k)
  have hf2 : ∀ j, j ≤ k → f j ≤ n := fun j hj => by rw [← hn]; exact hf.few j hj
  have hoff : ∀ s, ¬ (s < len ∧ 0 < l.getD s 0) → lenS l len (k + 1) s = 0 := fun s hs => (hS s).trans (sumC_off l len f s (fun h => hs ((hmem s).1 h)) k)
  refine ⟨fun s h1 h3 => ?_, hoff, fun s q hs hq h1 h3 => ?_, ?_⟩
  · obtain ⟨r, hr, rfl⟩ := List.getElem_of_mem ((hmem s).2 ⟨h1, h3⟩)
    rw [hR r hr]
    exact ⟨levels_all h2 hf.mono hf2 hf.worth (by omega), cntR_le f r k⟩
  · obtain ⟨r, hr, rfl⟩ := List.getElem_of_mem ((hmem s).2 ⟨hs, h1⟩)
    obtain ⟨t, ht, rfl⟩ := List.getElem_of_mem ((hmem q).2 ⟨hq, by omega⟩)
    rw [hR r hr, hR t ht]
    rcases Nat.lt_or_ge t r with hlt | hge
    · exfalso
      have hl : ∀ i (hi : i < (ranks l len).length), ∃ hj : i < (sortM (lvM l len)).length, (sortM (lvM l len))[i].1 = (l.getD (ranks l len)[i] 0).toNat := fun i hi => by
        have hj : i < (sortM (lvM l len)).length := by unfold ranks at hi; rwa [List.length_map] at hi
        refine ⟨hj, ?_⟩
        rw [(sorted_leaf l len _ (List.getElem_mem hj)).2]
        simp [ranks]
      obtain ⟨j1, e1⟩ := hl r hr
      obtain ⟨j2, e2⟩ := hl t ht
      have hasc := sortM_asc (lvM l len)
      unfold AscM at hasc
      have := List.pairwise_iff_getElem.1 hasc t r j2 j1 hlt
      omega
    · exact cntR_anti f hge k
  · unfold codeB
    have hks : kraftS ((List.range len).map fun s => ((lenS l len (k + 1) s : Nat) : Int)) 16 = 32768 := by
      have h1 := kraft_sum ((List.range len).map (lenS l len (k + 1)))
      rw [List.map_map, List.map_map] at h1
      refine Eq.trans h1 ?_
      rw [← sum_filter (p := posB l) (List.range len) (fun s _ hp => by
        have hp : ¬ 0 < l.getD s 0 := of_decide_eq_false hp
        show wtL (lenS l len (k + 1) s) = 0
        rw [hoff s (fun h => hp h.2)]; rfl), ← (((ranks_perm l len).map (wtL ∘ lenS l len (k + 1))).sum_nat)]
      have h3 := sum_sumR (wtL ∘ lenS l len (k + 1)) (ranks l len) _ (Nat.le_refl _)
      rw [List.take_length] at h3
      rw [h3, hrl]
      have h4 := kraft_levels (by omega) hf.mono hf2 hf.worth
      rw [sumR_congr (h := fun r => 2 ^ (15 - (k + 1)) * 2 ^ (k + 1 - cntR f r k)) n fun r hr => ?_, sumR_mul, h4, ← Nat.pow_add, show 15 - (k + 1) + (k + 1) = 15 by omega]
      have hr2 : r < (ranks l len).length := by omega
      have hc1 := levels_all h2 hf.mono hf2 hf.worth hr
      have hc2 := cntR_le f r k
      show wtL (lenS l len (k + 1) ((ranks l len).getD r 0)) = _
      rw [show (ranks l len).getD r 0 = (ranks l len)[r] by simp [List.getD, hr2], hR r hr2]
      unfold wtL
      rw [if_pos (by omega), ← Nat.pow_add, show 15 - (k + 1) + (k + 1 - cntR f r k) = 15 - cntR f r k by omega]
    rw [decide_eq_true hks]
    simp
end Go.Proofs.YtacgnadhpgkcmaaDoor
