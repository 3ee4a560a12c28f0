/- How a slice of spans that came in is read: each span's two cells. -/
import Derived.Test.YtemgdnloabefjaaRows
import Derived.Test.YtemgdnloabefjaaLawKit
import Derived.Deep.Slices
namespace Go.Proofs.Ytemgdnloabefjaa
open Go.RowKit Go.ChangeShapes Go.WideShapes Go.ChangeAt Go.Deep
set_option linter.unusedVariables false
structure SpR where
  lo : Int
  hi : Int
def SpansIn (w : World) (a : Option Addr) (l : List SpR) : Prop :=
  ∀ i (h : i < l.length), ∃ b off, a = some ⟨b, off, none⟩ ∧ b < w.heap.size ∧ w.cell? ⟨b, off + i * 2, none⟩ = some (.int .i64 (l[i]'h).lo) ∧ w.cell? ⟨b, off + i * 2 + 1, none⟩ = some (.int .i64 (l[i]'h).hi)
theorem SpansIn.below {w w' : World} {a : Option Addr} {l : List SpR} (h : SpansIn w a l) (hb : Below w.heap.size w w') : SpansIn w' a l := fun i hi => by
  obtain ⟨b, off, e, hl, h0, h1⟩ := h i hi
  exact ⟨b, off, e, Nat.lt_of_lt_of_le hl hb.size, (hb.cell (p := ⟨b, _, none⟩) hl).trans h0, (hb.cell (p := ⟨b, _, none⟩) hl).trans h1⟩
theorem cells_span : Try.prog.cellsOf 31 = 2 := by kernel_rfl
section
variable {H : Type} {enc : TypeId × Value → H} {w : World} {base : Nat} {spare : Nat → Bool} {held : Bool}
set_option maxRecDepth 100000 in
theorem open_spans {n : Nat} {u : Value} {y : DataW H × List MemPlace} (h : DataW.trod enc Try.prog w base spare held n 22 [u] = some y) :
    ∃ (a : Option Addr) (len cap : Nat) (l : List SpR), u = .slice a len cap ∧ len ≤ 9223372036854775807 ∧ l.length = len ∧ len ≤ cap ∧ SpansIn w a l := by
  rcases open_slice Try.underlying22 h with ⟨hcs, _⟩ | ⟨a, len, cap, mm, nn, D, Pl, hcs, _, hl, hcm, hm, _, hi⟩
  · simp only [List.cons.injEq, and_true] at hcs
    exact ⟨none, 0, 0, [], hcs, by omega, rfl, Nat.le_refl _, fun i hi => by simp at hi⟩
  · simp only [List.cons.injEq, and_true] at hcs
    have hlm : len ≤ mm := by rw [hm]; split <;> omega
    by_cases hz : len = 0
    · exact ⟨some a, len, cap, [], hcs, by omega, by simp [hz], hl, fun i hi => by simp at hi⟩
    have hsp : a.spot = none := by
      obtain ⟨cs', hc, _⟩ := hi 0 (by omega)
      rw [cells_span] at hc
      obtain ⟨_, hcl, hat⟩ := World.cells?_some hc
      match cs', hcl with
      | [v0, v1], _ =>
        have c0 := hat 0 (by omega)
        simp only [List.getElem?_cons_zero] at c0
        simpa [Addr.add] using World.cell?_spot c0
    obtain ⟨b, off, sp⟩ := a
    obtain rfl : sp = none := hsp
    have key : ∀ i, i < len → ∃ p : SpR, ∃ b' off', some (⟨b, off, none⟩ : Addr) = some ⟨b', off', none⟩ ∧ b' < w.heap.size ∧ w.cell? ⟨b', off' + i * 2, none⟩ = some (.int .i64 p.lo) ∧ w.cell? ⟨b', off' + i * 2 + 1, none⟩ = some (.int .i64 p.hi) := fun i hlt => by
      obtain ⟨cs', hc, ht⟩ := hi i (by omega)
      rw [cells_span] at hc
      obtain ⟨_, hcl, hat⟩ := World.cells?_some hc
      obtain ⟨xs, n', _, hy, hlen, hxl, hf⟩ := DataW.trod_struct Try.underlying31 ht
      match cs', hcl with
      | [v0, v1], _ =>
        have h0 := hf 0 _ rfl
        have h1 := hf 1 _ rfl
        have e0 : xs[0]? = some (xs[0]'(by rw [hxl]; decide)) := List.getElem?_eq_getElem _
        have e1 : xs[1]? = some (xs[1]'(by rw [hxl]; decide)) := List.getElem?_eq_getElem _
        rw [e0] at h0
        rw [e1] at h1
        obtain ⟨x0, hx0, _⟩ := DataW.trod_int Try.underlying3 h0
        obtain ⟨x1, hx1, _⟩ := DataW.trod_int Try.underlying3 h1
        have c0 := hat 0 (by omega)
        have c1 := hat 1 (by omega)
        have v0e : v0 = .int .i64 x0 := by simpa [show Try.prog.cellsOf 3 = 1 from by kernel_rfl] using hx0
        have v1e : v1 = .int .i64 x1 := by simpa [show Try.prog.cellsOf 3 = 1 from by kernel_rfl] using hx1
        subst v0e v1e
        simp only [List.getElem?_cons_zero] at c0
        simp only [List.getElem?_cons_succ, List.getElem?_cons_zero] at c1
        have aj : ∀ j, (Addr.add (Addr.add ⟨b, off, none⟩ (i * 2)) j) = ⟨b, off + i * 2 + j, none⟩ := fun j => by
          unfold Addr.add
          by_cases hz : i * 2 = 0 <;> by_cases hj : j = 0 <;> simp [hz, hj]
        rw [aj] at c0 c1
        refine ⟨⟨x0, x1⟩, b, off, rfl, ?_, by simpa using c0, c1⟩
        rcases Nat.lt_or_ge b w.heap.size with hlt' | hge
        · exact hlt'
        · simp [World.cell?, Array.getElem?_eq_none hge] at c0
    have hch : ∃ f : Nat → SpR, ∀ i, i < len → ∃ b' off', some (⟨b, off, none⟩ : Addr) = some ⟨b', off', none⟩ ∧ b' < w.heap.size ∧ w.cell? ⟨b', off' + i * 2, none⟩ = some (.int .i64 (f i).lo) ∧ w.cell? ⟨b', off' + i * 2 + 1, none⟩ = some (.int .i64 (f i).hi) :=
      ⟨fun i => if h : i < len then (key i h).choose else ⟨0, 0⟩, fun i h => by
        have := (key i h).choose_spec
        simpa [h] using this⟩
    obtain ⟨f, hf⟩ := hch
    refine ⟨some ⟨b, off, none⟩, len, cap, (List.range len).map f, hcs, by unfold maxLen at hcm; omega, by simp, hl, fun i hi => ?_⟩
    have hi' : i < len := by simpa using hi
    have := hf i hi'
    simpa using this
end
end Go.Proofs.Ytemgdnloabefjaa
