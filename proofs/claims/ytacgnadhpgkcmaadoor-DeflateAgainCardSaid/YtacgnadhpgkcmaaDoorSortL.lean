/- Plain: the insertion sort of an array is that of a list. No program in it. -/
import Derived.Test.YtacgnadhpgkcmaaDoorHufY
namespace Go.Proofs.YtacgnadhpgkcmaaDoor
open Go.Sort
set_option linter.unusedVariables false
/-- An element put into a row that lies reversed. -/
def insRev {α : Type} (lt : α → α → Bool) (x : α) : List α → List α
  | [] => [x]
  | y :: r => if lt x y then y :: insRev lt x r else x :: y :: r
def sortL {α : Type} (lt : α → α → Bool) (l : List α) : List α := (l.foldl (fun r x => insRev lt x r) []).reverse
theorem insRev_len {α : Type} (lt : α → α → Bool) (x : α) : ∀ l : List α, (insRev lt x l).length = l.length + 1
  | [] => rfl
  | y :: r => by
    unfold insRev
    split
    · simp [insRev_len lt x r]
    · simp
theorem insRev_mem {α : Type} (lt : α → α → Bool) (x : α) : ∀ (l : List α) (z : α), z ∈ insRev lt x l ↔ z = x ∨ z ∈ l
  | [], z => by simp [insRev]
  | y :: r, z => by
    unfold insRev
    split
    · simp only [List.mem_cons, insRev_mem lt x r z]
      constructor
      · rintro (h | h | h) <;> simp [h]
      · rintro (h | h | h) <;> simp [h]
    · simp
theorem fold_mem {α : Type} (lt : α → α → Bool) : ∀ (l r : List α) (z : α), z ∈ l.foldl (fun r x => insRev lt x r) r ↔ z ∈ l ∨ z ∈ r
  | [], r, z => by simp
  | x :: l, r, z => by
    rw [List.foldl_cons, fold_mem lt l _ z, insRev_mem]
    simp only [List.mem_cons]
    constructor
    · rintro (h | h | h) <;> simp [h]
    · rintro ((h | h) | h) <;> simp [h]
theorem fold_len {α : Type} (lt : α → α → Bool) : ∀ (l r : List α), (l.foldl (fun r x => insRev lt x r) r).length = l.length + r.length
  | [], r => by simp
  | x :: l, r => by
    rw [List.foldl_cons, fold_len lt l, insRev_len, List.length_cons]; omega
theorem sortL_mem {α : Type} (lt : α → α → Bool) (l : List α) (z : α) : z ∈ sortL lt l ↔ z ∈ l := by
  unfold sortL
  rw [List.mem_reverse, fold_mem]; simp
theorem sortL_len {α : Type} (lt : α → α → Bool) (l : List α) : (sortL lt l).length = l.length := by
  unfold sortL
  rw [List.length_reverse, fold_len]; simp
theorem insRev_map {α β : Type} (f : α → β) (lt : α → α → Bool) (lt' : β → β → Bool) (h : ∀ x y, lt x y = lt' (f x) (f y)) (x : α) : ∀ l : List α, (insRev lt x l).map f = insRev lt' (f x) (l.map f)
  | [] => rfl
  | y :: r => by
    unfold insRev
    rw [h x y]
    show _ = if lt' (f x) (f y) then _ else _
    split
    · rw [List.map_cons, insRev_map f lt lt' h x r]
    · rfl
theorem fold_map {α β : Type} (f : α → β) (lt : α → α → Bool) (lt' : β → β → Bool) (h : ∀ x y, lt x y = lt' (f x) (f y)) : ∀ l r : List α, (l.foldl (fun r x => insRev lt x r) r).map f = (l.map f).foldl (fun r x => insRev lt' x r) (r.map f)
  | [], r => rfl
  | x :: l, r => by
    rw [List.foldl_cons, List.map_cons, List.foldl_cons, fold_map f lt lt' h l, insRev_map f lt lt' h]
theorem sortL_map {α β : Type} (f : α → β) (lt : α → α → Bool) (lt' : β → β → Bool) (h : ∀ x y, lt x y = lt' (f x) (f y)) (l : List α) : (sortL lt l).map f = sortL lt' (l.map f) := by
  unfold sortL
  rw [List.map_reverse, fold_map f lt lt' h]
  rfl
section
variable {α : Type} [Inhabited α]
theorem get_mid (P S : List α) (x : α) : (P ++ x :: S).toArray[P.length]! = x := by
  rw [getElem!_pos _ _ (by simp)]
  simp
theorem swp_mid (P S : List α) (x y : α) : swp (P ++ y :: x :: S).toArray (P.length + 1) P.length = (P ++ x :: y :: S).toArray := by
  have h1 : (P ++ y :: x :: S).toArray[P.length + 1]! = x := by
    rw [getElem!_pos _ _ (by simp)]
    simp
  unfold swp
  rw [h1, get_mid]
  simp
theorem inner_list (lt : α → α → Bool) (x : α) : ∀ (P S : List α), insInner lt 0 P.length (P.reverse ++ x :: S).toArray = ((insRev lt x P).reverse ++ S).toArray
  | [], S => rfl
  | y :: P, S => by
    have e0 : (y :: P).reverse ++ x :: S = P.reverse ++ y :: x :: S := by simp
    have h1 : (P.reverse ++ y :: x :: S).toArray[P.length + 1]! = x := by
      rw [getElem!_pos _ _ (by simp)]
      simp
    have h2 : (P.reverse ++ y :: x :: S).toArray[P.length]! = y := by
      have := get_mid P.reverse (x :: S) y
      rwa [List.length_reverse] at this
    have h3 : swp (P.reverse ++ y :: x :: S).toArray (P.length + 1) P.length = (P.reverse ++ x :: y :: S).toArray := by
      have := swp_mid P.reverse S x y
      rwa [List.length_reverse] at this
    rw [e0]
    show insInner lt 0 (P.length + 1) _ = _
    unfold insInner insRev
    rw [h1, h2, h3]
    by_cases hl : lt x y = true
    · rw [if_pos (by simp [hl]), if_pos hl, inner_list lt x P (y :: S)]
      simp
    · rw [if_neg (by simp [hl]), if_neg hl]
      simp
theorem outer_list (lt : α → α → Bool) : ∀ (S R : List α) (b : Nat), b = R.length + S.length → insOuter lt 0 b R.length (R.reverse ++ S).toArray = (S.foldl (fun r x => insRev lt x r) R).reverse.toArray
  | [], R, b, h => by
    unfold insOuter
    rw [if_neg (by simp at h; omega)]
    simp
  | x :: S, R, b, h => by
    unfold insOuter
    rw [if_pos (by simp at h; omega), inner_list lt x R S, List.foldl_cons]
    have := outer_list lt S (insRev lt x R) b (by rw [insRev_len]; simp at h; omega)
    rw [insRev_len] at this
    exact this
theorem sort_list (lt : α → α → Bool) : ∀ l : List α, (Sort.insertionSort lt l.toArray 0 l.length).toList = sortL lt l
  | [] => by
    unfold Sort.insertionSort insOuter
    rfl
  | x :: l => by
    have := outer_list lt l [x] (l.length + 1) (by simp; omega)
    show (insOuter lt 0 (l.length + 1) 1 ([x].reverse ++ l).toArray).toList = _
    have e : ([x] : List α).length = 1 := rfl
    rw [e] at this
    rw [this]
    rfl
end
end Go.Proofs.YtacgnadhpgkcmaaDoor
