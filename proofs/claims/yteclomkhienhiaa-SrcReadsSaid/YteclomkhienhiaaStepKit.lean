/- How a slice of steps that came in is read: each step's two numbers. -/
import Derived.Test.YteclomkhienhiaaLawKit
import Derived.Test.YteclomkhienhiaaSrcB
import Derived.Deep.Slices
namespace Go.Proofs.Yteclomkhienhiaa
open Go.RowKit Go.ChangeShapes Go.WideShapes Go.ChangeAt Go.Deep
set_option linter.unusedVariables false
theorem cells_step : Try.prog.cellsOf 33 = 2 := by kernel_rfl
section
variable {H : Type} {enc : TypeId × Value → H} {w : World} {base : Nat} {spare : Nat → Bool} {held : Bool}
set_option maxRecDepth 100000 in
theorem open_steps {n : Nat} {u : Value} {y : DataW H × List MemPlace} (h : DataW.trod enc Try.prog w base spare held n 22 [u] = some y) :
    ∃ (a : Option Addr) (len cap : Nat) (l : List (Int × Int)), u = .slice a len cap ∧ l.length = len ∧ StepsAt w a l := by
  rcases open_slice Try.underlying22 h with ⟨hcs, _⟩ | ⟨a, len, cap, mm, nn, D, Pl, hcs, _, hl, _, hm, _, hi⟩
  · simp only [List.cons.injEq, and_true] at hcs
    exact ⟨none, 0, 0, [], hcs, rfl, fun i hi => by simp at hi⟩
  · simp only [List.cons.injEq, and_true] at hcs
    have hlm : len ≤ mm := by rw [hm]; split <;> omega
    by_cases hz : len = 0
    · exact ⟨some a, len, cap, [], hcs, by simp [hz], fun i hi => by simp at hi⟩
    have hsp : a.spot = none := by
      obtain ⟨cs', hc, _⟩ := hi 0 (by omega)
      rw [cells_step] at hc
      obtain ⟨_, hcl, hat⟩ := World.cells?_some hc
      match cs', hcl with
      | [v0, v1], _ =>
        have c0 := hat 0 (by omega)
        simp only [List.getElem?_cons_zero] at c0
        simpa [Addr.add] using World.cell?_spot c0
    obtain ⟨b, off, sp⟩ := a
    obtain rfl : sp = none := hsp
    have key : ∀ i, i < len → ∃ p : Int × Int, ∃ b' off', some (⟨b, off, none⟩ : Addr) = some ⟨b', off', none⟩ ∧ b' < w.heap.size ∧ w.cell? ⟨b', off' + i * 2, none⟩ = some (.int .i64 p.1) ∧ w.cell? ⟨b', off' + i * 2 + 1, none⟩ = some (.int .i64 p.2) := fun i hlt => by
      obtain ⟨cs', hc, ht⟩ := hi i (by omega)
      rw [cells_step] at hc
      obtain ⟨_, hcl, hat⟩ := World.cells?_some hc
      obtain ⟨xs, n', _, hy, hlen, hxl, hf⟩ := DataW.trod_struct Try.underlying33 ht
      match cs', hcl with
      | [v0, v1], _ =>
        have h0 := hf 0 _ rfl
        have h1 := hf 1 _ rfl
        have e0 : xs[0]? = some (xs[0]'(by rw [hxl]; decide)) := List.getElem?_eq_getElem _
        have e1 : xs[1]? = some (xs[1]'(by rw [hxl]; decide)) := List.getElem?_eq_getElem _
        rw [e0] at h0
        rw [e1] at h1
        obtain ⟨x0, hx0, _⟩ := DataW.trod_int Try.underlying3 h0
        obtain ⟨x1, hx1, _⟩ := DataW.trod_int Try.underlying3 h1
        have c0 := hat 0 (by omega)
        have c1 := hat 1 (by omega)
        have v0e : v0 = .int .i64 x0 := by simpa [show Try.prog.cellsOf 3 = 1 from by kernel_rfl] using hx0
        have v1e : v1 = .int .i64 x1 := by simpa [show Try.prog.cellsOf 3 = 1 from by kernel_rfl] using hx1
        subst v0e v1e
        simp only [List.getElem?_cons_zero] at c0
        simp only [List.getElem?_cons_succ, List.getElem?_cons_zero] at c1
        have a0 : (Addr.add (Addr.add ⟨b, off, none⟩ (i * 2)) 0) = ⟨b, off + i * 2, none⟩ := by
          unfold Addr.add; by_cases hz : i * 2 = 0 <;> simp [hz]
        have a1 : (Addr.add (Addr.add ⟨b, off, none⟩ (i * 2)) 1) = ⟨b, off + i * 2 + 1, none⟩ := by
          unfold Addr.add; by_cases hz : i * 2 = 0 <;> simp [hz]
        rw [a0] at c0
        rw [a1] at c1
        refine ⟨(x0, x1), b, off, rfl, ?_, c0, c1⟩
        rcases Nat.lt_or_ge b w.heap.size with hlt' | hge
        · exact hlt'
        · simp [World.cell?, Array.getElem?_eq_none hge] at c0
    have hch : ∃ f : Nat → Int × Int, ∀ i, i < len → ∃ b' off', some (⟨b, off, none⟩ : Addr) = some ⟨b', off', none⟩ ∧ b' < w.heap.size ∧ w.cell? ⟨b', off' + i * 2, none⟩ = some (.int .i64 (f i).1) ∧ w.cell? ⟨b', off' + i * 2 + 1, none⟩ = some (.int .i64 (f i).2) :=
      ⟨fun i => if h : i < len then (key i h).choose else (0, 0), fun i h => by
        have := (key i h).choose_spec
        simpa [h] using this⟩
    obtain ⟨f, hf⟩ := hch
    refine ⟨some ⟨b, off, none⟩, len, cap, (List.range len).map f, hcs, by simp, fun i hi => ?_⟩
    have hi' : i < len := by simpa using hi
    have := hf i hi'
    simpa using this
end
end Go.Proofs.Yteclomkhienhiaa
