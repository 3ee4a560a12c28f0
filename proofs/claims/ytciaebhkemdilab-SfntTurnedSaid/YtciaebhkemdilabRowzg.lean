/- A row of structs, element by element. No program in it. -/
import Derived.Test.YtciaebhkemdilabPutLg
import Derived.Laws.MakeOwn
namespace Go.Proofs.Ytciaebhkemdilab
open Go.RowKit
set_option linter.unusedVariables false
theorem setL_size : ∀ (l : List Value) (i : Nat) (cs : Array Value), (setL l i cs).size = cs.size
  | [], _, _ => rfl
  | v :: r, i, cs => by rw [setL, setL_size]; simp
theorem setL_get : ∀ (l : List Value) (i : Nat) (cs : Array Value) (k : Nat), k < cs.size → (setL l i cs)[k]? = if i ≤ k ∧ k < i + l.length then l[k - i]? else cs[k]?
  | [], i, cs, k, h => by rw [setL, if_neg (by simp)]
  | v :: r, i, cs, k, h => by
    rw [setL, setL_get r (i + 1) _ k (by simpa using h)]
    by_cases e : k = i
    · subst e
      rw [if_neg (by omega), if_pos ⟨Nat.le_refl _, by simp⟩, Nat.sub_self]
      rw [Array.getElem?_setIfInBounds_self]
      simp [h]
    · by_cases h1 : i + 1 ≤ k ∧ k < i + 1 + r.length
      · rw [if_pos h1, if_pos ⟨by omega, by simp; omega⟩]
        rw [show k - i = (k - (i + 1)) + 1 by omega, List.getElem?_cons_succ]
      · rw [if_neg h1, if_neg (by simp; omega), Array.getElem?_setIfInBounds_ne (by omega)]
/-- n elements of z cells each, f i the cells of the i-th. -/
structure RowZ (t : TypeId) (z : Nat) (w : World) (g n : Nat) (f : Nat → List Value) : Prop where
  has : ∃ cs, Has w g t cs ∧ cs.size = n * z ∧ ∀ i, i < n → ∀ j, j < z → cs[i * z + j]? = (f i)[j]?
  len : ∀ i, i < n → (f i).length = z
section
variable {t : TypeId} {z : Nat} {w w' : World} {g n : Nat} {f : Nat → List Value}
theorem row_lt {i j n z : Nat} (hi : i < n) (hj : j < z) : i * z + j < n * z := by
  have h := Nat.mul_le_mul_right z (show i + 1 ≤ n from hi)
  rw [Nat.succ_mul] at h
  omega
theorem row_eq {i k j m z : Nat} (hj : j < z) (hm : m < z) (h : i * z + j = k * z + m) : i = k ∧ j = m := by
  rcases Nat.lt_trichotomy i k with h1 | h1 | h1
  · have := Nat.mul_le_mul_right z (show i + 1 ≤ k from h1)
    rw [Nat.succ_mul] at this; omega
  · subst h1; exact ⟨rfl, by omega⟩
  · have := Nat.mul_le_mul_right z (show k + 1 ≤ i from h1)
    rw [Nat.succ_mul] at this; omega
theorem RowZ.cell (h : RowZ t z w g n f) {i j : Nat} (hi : i < n) (hj : j < z) : w.cell? ⟨g, i * z + j, none⟩ = (f i)[j]? := by
  obtain ⟨cs, a, b, c⟩ := h.has
  rw [a.cell, c i hi j hj]
theorem RowZ.frozen (h : RowZ t z w g n f) (k : Nat) : w.frozen? ⟨g, k, none⟩ = false := by
  obtain ⟨cs, a, b, c⟩ := h.has
  exact a.frozen k
theorem RowZ.range (h : RowZ t z w g n f) {i : Nat} (hi : i < n) : w.rangeAt g (i * z) (f i) := fun j v hv => by
  have hj : j < z := by rw [← h.len i hi]; exact (List.getElem?_eq_some_iff.1 hv).1
  rw [h.cell hi hj, hv]
theorem RowZ.there (h : RowZ t z w g n f) {i : Nat} (hi : i < n) : w.there g (i * z) z := fun j hj => by
  rw [h.cell hi hj, h.frozen]
  refine ⟨?_, rfl⟩
  rw [List.getElem?_eq_getElem (by rw [h.len i hi]; exact hj)]
  rfl
theorem RowZ.keep (h : RowZ t z w g n f) (hk : w'.heap[g]? = w.heap[g]?) : RowZ t z w' g n f := by
  obtain ⟨cs, a, b, c⟩ := h.has
  exact ⟨⟨cs, hk.trans a, b, c⟩, h.len⟩
theorem RowZ.lt (h : RowZ t z w g n f) : g < w.heap.size := by
  obtain ⟨cs, a, b, c⟩ := h.has
  exact a.lt
theorem RowZ.bw (h : RowZ t z w g n f) (hb : Bw w w') : RowZ t z w' g n f := h.keep (Below.block hb g h.lt)
theorem RowZ.keeps {F : Nat → Prop} (h : RowZ t z w g n f) (hk : Keeps F w w') (hg : ¬ F g) : RowZ t z w' g n f := h.keep (hk.block g h.lt hg)
theorem RowZ.set (h : RowZ t z w g n f) {i : Nat} (hi : i < n) {vs : List Value} (hv : vs.length = z) : RowZ t z (w.setCells g (i * z) vs) g n (fun k => if k = i then vs else f k) := by
  obtain ⟨cs, a, b, c⟩ := h.has
  refine ⟨⟨setL vs (i * z) cs, by rw [setCells_put]; exact putL_has a, by rw [setL_size]; exact b, fun k hk j hj => ?_⟩, fun k hk => ?_⟩
  · rw [setL_get _ _ _ _ (by rw [b]; exact row_lt hk hj)]
    by_cases e : k = i
    · subst e
      rw [if_pos ⟨by omega, by rw [hv]; omega⟩, Nat.add_sub_cancel_left, if_pos rfl]
    · rw [if_neg e, if_neg, c k hk j hj]
      intro ⟨h1, h2⟩
      rw [hv] at h2
      exact e (row_eq (m := k * z + j - i * z) hj (by omega) (by omega)).1
  · by_cases e : k = i
    · simp only [if_pos e]; exact hv
    · simp only [if_neg e]; exact h.len k hk
theorem RowZ.put (h : RowZ t z w g n f) {i j : Nat} (hi : i < n) (hj : j < z) (v : Value) : RowZ t z (w.setCell ⟨g, i * z + j, none⟩ v) g n (fun k => if k = i then (f i).set j v else f k) := by
  obtain ⟨cs, a, b, c⟩ := h.has
  refine ⟨⟨_, a.put (i * z + j) v, by simp [b], fun k hk m hm => ?_⟩, fun k hk => ?_⟩
  · by_cases e : k = i ∧ m = j
    · obtain ⟨rfl, rfl⟩ := e
      rw [Array.getElem?_setIfInBounds_self, if_pos rfl, if_pos (by rw [b]; exact row_lt hk hm), List.getElem?_set_self (by rw [h.len k hk]; exact hm)]
    · rw [Array.getElem?_setIfInBounds_ne (fun x => e ((row_eq hj hm x).imp Eq.symm Eq.symm)), c k hk m hm]
      by_cases e2 : k = i
      · subst e2
        rw [if_pos rfl, List.getElem?_set_ne (fun x => e ⟨rfl, x.symm⟩)]
      · rw [if_neg e2]
  · by_cases e : k = i
    · simp only [if_pos e, List.length_set]; exact h.len i hi
    · simp only [if_neg e]; exact h.len k hk
theorem RowZ.congr {f' : Nat → List Value} (h : RowZ t z w g n f) (he : ∀ i, i < n → f i = f' i) : RowZ t z w g n f' := by
  obtain ⟨cs, a, b, c⟩ := h.has
  exact ⟨⟨cs, a, b, fun i hi j hj => by rw [← he i hi]; exact c i hi j hj⟩, fun i hi => by rw [← he i hi]; exact h.len i hi⟩
theorem RowZ.made (w : World) (t : TypeId) (Z : Array Value) (n : Nat) : RowZ t Z.size (w.alloc (.cells (madeCells Z (n * Z.size)) t)) w.heap.size n (fun _ => Z.toList) := by
  refine ⟨⟨_, Has.new w t _, by rw [size_madeCells], fun i hi j hj => ?_⟩, fun i hi => by simp⟩
  have hlt := row_lt hi hj
  unfold madeCells
  rw [Array.getElem?_map, Array.getElem?_range, if_pos hlt, Option.map_some]
  have hm : (i * Z.size + j) % Z.size = j := by
    rw [Nat.add_comm, Nat.add_mul_mod_self_right, Nat.mod_eq_of_lt hj]
  rw [hm, getElem!_pos Z j hj]
  simp [hj]
end
theorem Bw.seg {w0 w : World} {g : Nat} (h : Bw w0 w) (hg : w0.heap.size ≤ g) (o : Nat) (l : List Value) : Bw w0 (w.setCells g o l) := by
  rw [setCells_put]; exact putL_below hg h
theorem Keeps.seg {F : Nat → Prop} {a w : World} {g : Nat} (h : Keeps F a w) (hg : a.heap.size ≤ g) (o : Nat) (l : List Value) : Keeps F a (w.setCells g o l) := by
  rw [setCells_put]
  have hb := putL_below (B := 0) (g := g) (Nat.zero_le _) (l := l) (i := o) (Below.refl 0 w)
  exact ⟨hb.os.trans h.os, hb.tape.trans h.tape, hb.output.trans h.output, by rw [putL_size]; exact h.size, fun i hi hn => (putL_heap (by omega)).trans (h.block i hi hn)⟩
theorem Has.seg_far {w : World} {g b : Nat} {t : TypeId} {cs : Array Value} (h : Has w b t cs) (hb : b ≠ g) (o : Nat) (l : List Value) : Has (w.setCells g o l) b t cs := by
  rw [setCells_put]; exact putL_far hb h
end Go.Proofs.Ytciaebhkemdilab
