/- A struct's cells, stored one behind the other. No program in it. -/
import Derived.Test.YtciaebhkemdilabRows
import Derived.Test.YtciaebhkemdilabBase
import Derived.Test.YtciaebhkemdilabKitC
import Derived.Deep.MidRow
namespace Go.Proofs.Ytciaebhkemdilab
open Go.RowKit
set_option linter.unusedVariables false
def putL (g : Nat) : List Value → Nat → World → World
  | [], _, w => w
  | v :: r, i, w => putL g r (i + 1) (w.setCell ⟨g, i, none⟩ v)
def setL : List Value → Nat → Array Value → Array Value
  | [], _, cs => cs
  | v :: r, i, cs => setL r (i + 1) (cs.setIfInBounds i v)
theorem putL_has {g : Nat} {t : TypeId} : ∀ {l : List Value} {i : Nat} {w : World} {cs : Array Value}, Has w g t cs → Has (putL g l i w) g t (setL l i cs)
  | [], _, _, _, h => h
  | v :: r, i, w, cs, h => by rw [putL, setL]; exact putL_has (h.put i v)
theorem putL_far {g b : Nat} {t : TypeId} (hb : b ≠ g) : ∀ {l : List Value} {i : Nat} {w : World} {cs : Array Value}, Has w b t cs → Has (putL g l i w) b t cs
  | [], _, _, _, h => h
  | v :: r, i, w, cs, h => by rw [putL]; exact putL_far hb (h.far (p := ⟨g, i, none⟩) hb v)
theorem putL_below {B g : Nat} (hg : B ≤ g) : ∀ {l : List Value} {i : Nat} {w0 w : World}, Below B w0 w → Below B w0 (putL g l i w)
  | [], _, _, _, h => h
  | v :: r, i, w0, w, h => by rw [putL]; exact putL_below hg (Below.setCell (p := ⟨g, i, none⟩) h hg v)
theorem putL_heap {g b : Nat} (hb : b ≠ g) : ∀ {l : List Value} {i : Nat} {w : World}, (putL g l i w).heap[b]? = w.heap[b]?
  | [], _, _ => rfl
  | v :: r, i, w => by rw [putL, putL_heap hb]; exact Below.heap_setCell w ⟨g, i, none⟩ v b hb
theorem putL_size {g : Nat} : ∀ {l : List Value} {i : Nat} {w : World}, (putL g l i w).heap.size = w.heap.size
  | [], _, _ => rfl
  | v :: r, i, w => by rw [putL, putL_size]; simp [World.setCell]
theorem Has.range {w : World} {g : Nat} {t : TypeId} {cs : Array Value} (h : Has w g t cs) : w.rangeAt g 0 cs.toList := fun j v hv => by
  rw [Nat.zero_add, h.cell j]
  simpa using hv
theorem Has.there {w : World} {g : Nat} {t : TypeId} {cs : Array Value} (h : Has w g t cs) (n : Nat) (hn : n ≤ cs.size) : w.there g 0 n := fun j hj => by
  rw [Nat.zero_add, h.cell j, h.frozen j]
  refine ⟨?_, rfl⟩
  rw [Array.getElem?_eq_getElem (show j < cs.size by omega)]
  rfl
theorem setCells_put {g : Nat} : ∀ (l : List Value) (i : Nat) (w : World), w.setCells g i l = putL g l i w
  | [], _, _ => rfl
  | v :: r, i, w => by rw [World.setCells, putL]; exact setCells_put r (i + 1) _
theorem setL_all : ∀ (l : List Value) (p : List Value) (q : List Value), q.length = l.length → setL l p.length (p ++ q).toArray = (p ++ l).toArray
  | [], p, q, h => by
    have : q = [] := List.eq_nil_of_length_eq_zero h
    rw [this]; rfl
  | v :: r, p, [], h => by simp at h
  | v :: r, p, x :: q, h => by
    have e : (p ++ x :: q).toArray.setIfInBounds p.length v = ((p ++ [v]) ++ q).toArray := by
      simp
    have := setL_all r (p ++ [v]) q (by simpa using h)
    rw [setL, e]
    have e2 : (p ++ [v]).length = p.length + 1 := by simp
    rw [e2] at this
    rw [this, List.append_assoc]
    rfl
theorem Has.set {w : World} {g : Nat} {t : TypeId} {cs : Array Value} (h : Has w g t cs) (l : List Value) (hl : cs.size = l.length) : Has (w.setCells g 0 l) g t l.toArray := by
  rw [setCells_put]
  have h2 := putL_has (l := l) (i := 0) h
  have e := setL_all l [] cs.toList (by simpa using hl)
  simp only [List.length_nil, List.nil_append] at e
  rw [← e]
  simpa using h2
theorem Has.set_far {w : World} {g b : Nat} {t : TypeId} {cs : Array Value} (h : Has w b t cs) (hb : b ≠ g) (l : List Value) : Has (w.setCells g 0 l) b t cs := by
  rw [setCells_put]; exact putL_far hb h
theorem Bw.set {w0 w : World} {g : Nat} (h : Bw w0 w) (hg : w0.heap.size ≤ g) (l : List Value) : Bw w0 (w.setCells g 0 l) := by
  rw [setCells_put]; exact putL_below hg h
theorem Keeps.set {F : Nat → Prop} {a w : World} {g : Nat} (h : Keeps F a w) (hg : a.heap.size ≤ g) (l : List Value) : Keeps F a (w.setCells g 0 l) := by
  rw [setCells_put]
  have hb := putL_below (B := 0) (g := g) (Nat.zero_le _) (l := l) (i := 0) (Below.refl 0 w)
  exact ⟨hb.os.trans h.os, hb.tape.trans h.tape, hb.output.trans h.output, by rw [putL_size]; exact h.size, fun i hi hn => (putL_heap (by omega)).trans (h.block i hi hn)⟩
end Go.Proofs.Ytciaebhkemdilab
