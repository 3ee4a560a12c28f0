/- Plain: the stable merge of two sorted lists; sorting a list is merging its sorted parts. No program in it. -/
import Derived.Test.YtcacnidlfjglbaaPkgA
namespace Go.Proofs.Ytcacnidlfjglbaa
open Go.RowKit Go.Conc
set_option linter.unusedVariables false
/-- The stable merge: the left one first where they are alike. -/
def mergeL {α : Type} (lt : α → α → Bool) : List α → List α → List α
  | [], v => v
  | x :: u, [] => x :: u
  | x :: u, y :: v => if lt y x then y :: mergeL lt (x :: u) v else x :: mergeL lt u (y :: v)
theorem mergeL_none {α : Type} (lt : α → α → Bool) (u : List α) : mergeL lt u [] = u := by cases u <;> simp [mergeL]
theorem mergeL_nil {α : Type} (lt : α → α → Bool) (v : List α) : mergeL lt [] v = v := by simp [mergeL]
/-- A merge falls apart where the right part's beginning is lighter than the left part's end, and the left part's beginning is not heavier than the right part's end. -/
theorem merge_split {α : Type} (lt : α → α → Bool) (u2 v2 : List α) : ∀ u1 v1 : List α, (∀ y ∈ v1, ∀ x ∈ u2, lt y x = true) → (∀ x ∈ u1, ∀ y ∈ v2, lt y x = false) → mergeL lt (u1 ++ u2) (v1 ++ v2) = mergeL lt u1 v1 ++ mergeL lt u2 v2
  | [], [], _, _ => by rw [mergeL_nil]; rfl
  | [], y :: v1, h1, h2 => by
    have ih := merge_split lt u2 v2 [] v1 (fun z hz => h1 z (List.mem_cons_of_mem _ hz)) h2
    rw [mergeL_nil] at ih
    rw [mergeL_nil]
    cases u2 with
    | nil => rw [List.nil_append, mergeL_nil, mergeL_nil]
    | cons x u2 =>
      show mergeL lt (x :: u2) (y :: (v1 ++ v2)) = y :: (v1 ++ mergeL lt (x :: u2) v2)
      rw [mergeL, if_pos (h1 y (List.mem_cons_self ..) x (List.mem_cons_self ..)), ← ih]; rfl
  | x :: u1, [], h1, h2 => by
    have ih := merge_split lt u2 v2 u1 [] h1 (fun z hz => h2 z (List.mem_cons_of_mem _ hz))
    rw [mergeL_none] at ih ⊢
    cases v2 with
    | nil => rw [List.append_nil, mergeL_none, mergeL_none]
    | cons y v2 =>
      show mergeL lt (x :: (u1 ++ u2)) (y :: v2) = x :: (u1 ++ mergeL lt u2 (y :: v2))
      rw [mergeL, if_neg (by rw [h2 x (List.mem_cons_self ..) y (List.mem_cons_self ..)]; decide), ← ih]; rfl
  | x :: u1, y :: v1, h1, h2 => by
    show mergeL lt (x :: (u1 ++ u2)) (y :: (v1 ++ v2)) = mergeL lt (x :: u1) (y :: v1) ++ _
    rw [mergeL, mergeL]
    split
    · have ih := merge_split lt u2 v2 (x :: u1) v1 (fun z hz => h1 z (List.mem_cons_of_mem _ hz)) h2
      rw [List.cons_append]
      exact congrArg (y :: ·) ih
    · have ih := merge_split lt u2 v2 u1 (y :: v1) h1 (fun z hz => h2 z (List.mem_cons_of_mem _ hz))
      rw [List.cons_append]
      exact congrArg (x :: ·) ih
theorem mergeL_mem {α : Type} (lt : α → α → Bool) : ∀ (u v : List α) (z : α), z ∈ mergeL lt u v ↔ z ∈ u ∨ z ∈ v
  | [], v, z => by rw [mergeL_nil]; simp
  | x :: u, [], z => by rw [mergeL_none]; simp
  | x :: u, y :: v, z => by
    rw [mergeL]
    split
    · have ih := mergeL_mem lt (x :: u) v z
      simp only [List.mem_cons] at ih ⊢
      rw [ih]
      constructor
      · rintro (h | (h | h) | h) <;> simp [h]
      · rintro ((h | h) | h | h) <;> simp [h]
    · have ih := mergeL_mem lt u (y :: v) z
      simp only [List.mem_cons] at ih ⊢
      rw [ih, or_assoc]
theorem merge_asc : ∀ u v : List NdM, AscM u → AscM v → AscM (mergeL mLt u v)
  | [], v, _, h => by rw [mergeL_nil]; exact h
  | x :: u, [], h, _ => by rw [mergeL_none]; exact h
  | x :: u, y :: v, hu, hv => by
    have hu' := hu
    have hv' := hv
    unfold AscM at hu' hv'
    rw [List.pairwise_cons] at hu' hv'
    rw [mergeL]
    split
    · rename_i hxy
      have hxy : y.1 < x.1 := of_decide_eq_true hxy
      unfold AscM
      rw [List.pairwise_cons]
      refine ⟨fun z hz => ?_, merge_asc (x :: u) v hu hv'.2⟩
      rcases (mergeL_mem mLt _ _ z).1 hz with e | e
      · rcases List.mem_cons.1 e with rfl | e
        · omega
        · have := hu'.1 z e; omega
      · exact hv'.1 z e
    · rename_i hxy
      have hxy : ¬ y.1 < x.1 := fun h => hxy (decide_eq_true h)
      unfold AscM
      rw [List.pairwise_cons]
      refine ⟨fun z hz => ?_, merge_asc u (y :: v) hu'.2 hv⟩
      rcases (mergeL_mem mLt _ _ z).1 hz with e | e
      · exact hu'.1 z e
      · rcases List.mem_cons.1 e with rfl | e
        · omega
        · have := hv'.1 z e; omega
/-- Inserted from the end. -/
def insF (p : NdM) (S : List NdM) : List NdM := (insRev mLt p S.reverse).reverse
theorem insRev_app {α : Type} (lt : α → α → Bool) (p : α) (Q : List α) : ∀ R : List α, insRev lt p (R ++ Q) = if R.all (lt p) then R ++ insRev lt p Q else insRev lt p R ++ Q
  | [] => rfl
  | z :: R => by
    show (if lt p z then z :: insRev lt p (R ++ Q) else p :: z :: (R ++ Q)) = _
    cases h : lt p z with
    | true =>
      rw [if_pos rfl, insRev_app lt p Q R, List.all_cons, h, Bool.true_and]
      split
      · rfl
      · rw [insRev, h]; rfl
    | false =>
      rw [if_neg (by decide), List.all_cons, h, Bool.false_and, if_neg (by decide), insRev, h]; rfl
theorem insF_nil (p : NdM) : insF p [] = [p] := rfl
theorem insF_cons (p y : NdM) (S : List NdM) (h : AscM (y :: S)) : insF p (y :: S) = if p.1 < y.1 then p :: y :: S else y :: insF p S := by
  unfold AscM at h
  rw [List.pairwise_cons] at h
  unfold insF
  rw [List.reverse_cons, insRev_app]
  by_cases hp : p.1 < y.1
  · have ha : S.reverse.all (mLt p) = true := by
      rw [List.all_eq_true]
      intro z hz
      have := h.1 z (List.mem_reverse.1 hz)
      exact decide_eq_true (by omega)
    rw [if_pos hp, if_pos ha]
    have : insRev mLt p [y] = [y, p] := by unfold insRev; rw [if_pos (show mLt p y = true from decide_eq_true hp)]; rfl
    rw [this]
    simp
  · rw [if_neg hp]
    split
    · have : insRev mLt p [y] = [p, y] := by unfold insRev; rw [if_neg (show ¬ mLt p y = true from fun e => hp (of_decide_eq_true e))]
      rw [this]
      rename_i ha
      have hall : insRev mLt p S.reverse = S.reverse ++ [p] := by
        have := insRev_app mLt p [] S.reverse
        rw [List.append_nil, if_pos ha] at this
        exact this
      rw [hall]
      simp
    · simp
theorem merge_ins (p : NdM) : ∀ u v : List NdM, AscM u → AscM v → mergeL mLt u (insF p v) = insF p (mergeL mLt u v)
  | [], v, _, _ => by rw [mergeL_nil, mergeL_nil]
  | x :: u, [], hu, _ => by
    have hu' := hu
    unfold AscM at hu'
    rw [List.pairwise_cons] at hu'
    have ih := merge_ins p u [] hu'.2 List.Pairwise.nil
    rw [mergeL_none, insF_nil] at ih
    rw [mergeL_none, insF_cons p x u hu, insF_nil, mergeL, mergeL_none, ih]
    by_cases h : p.1 < x.1
    · rw [if_pos h, if_pos (show mLt p x = true from decide_eq_true h)]
    · rw [if_neg h, if_neg (show ¬ mLt p x = true from fun e => h (of_decide_eq_true e))]
  | x :: u, y :: v, hu, hv => by
    have hu' := hu
    have hv' := hv
    unfold AscM at hu' hv'
    rw [List.pairwise_cons] at hu' hv'
    have hM := merge_asc _ _ hu hv
    have ih1 := merge_ins p u (y :: v) hu'.2 hv
    have ih2 := merge_ins p (x :: u) v hu hv'.2
    rw [insF_cons p y v hv] at ih1 ⊢
    have hL : mergeL mLt (x :: u) (y :: v) = if mLt y x then y :: mergeL mLt (x :: u) v else x :: mergeL mLt u (y :: v) := by rw [mergeL]
    by_cases hyx : y.1 < x.1
    · have b1 : mLt y x = true := decide_eq_true hyx
      rw [hL, if_pos b1] at hM
      rw [hL, if_pos b1, insF_cons p y _ hM]
      by_cases hp : p.1 < y.1
      · rw [if_pos hp, if_pos hp, mergeL, if_pos (show mLt p x = true from decide_eq_true (by omega)), hL, if_pos b1]
      · rw [if_neg hp, if_neg hp, mergeL, if_pos b1, ih2]
    · have b1 : ¬ mLt y x = true := fun e => hyx (of_decide_eq_true e)
      rw [hL, if_neg b1] at hM
      rw [hL, if_neg b1, insF_cons p x _ hM]
      by_cases hp : p.1 < y.1
      · rw [if_pos hp] at ih1 ⊢
        rw [mergeL, hL, if_neg b1]
        by_cases hpx : p.1 < x.1
        · rw [if_pos hpx, if_pos (show mLt p x = true from decide_eq_true hpx)]
        · rw [if_neg hpx, if_neg (show ¬ mLt p x = true from fun e => hpx (of_decide_eq_true e)), ih1]
      · rw [if_neg hp] at ih1 ⊢
        rw [mergeL, if_neg b1, if_neg (by omega), ih1]
theorem sortM_snoc (L : List NdM) (p : NdM) : sortM (L ++ [p]) = insF p (sortM L) := by
  unfold sortM sortL insF
  rw [List.foldl_append, List.reverse_reverse]; rfl
/-- Sorting is merging the sorted parts. -/
theorem sort_merge (A : List NdM) : ∀ n (B : List NdM), B.length = n → sortM (A ++ B) = mergeL mLt (sortM A) (sortM B)
  | 0, B, h => by
    obtain rfl : B = [] := List.length_eq_zero_iff.1 h
    rw [List.append_nil]
    exact (mergeL_none mLt _).symm
  | n + 1, B, h => by
    obtain ⟨C, p, rfl⟩ : ∃ C p, B = C ++ [p] := by
      have hne : B ≠ [] := fun e => by rw [e] at h; simp at h
      exact ⟨B.dropLast, B.getLast hne, (List.dropLast_concat_getLast hne).symm⟩
    rw [← List.append_assoc, sortM_snoc, sortM_snoc, sort_merge A n C (by simpa using h), merge_ins p _ _ (sortM_asc A) (sortM_asc C)]
end Go.Proofs.Ytcacnidlfjglbaa
