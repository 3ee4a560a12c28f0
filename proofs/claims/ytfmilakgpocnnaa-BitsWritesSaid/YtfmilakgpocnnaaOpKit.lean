/- How a slice of Ops that came in is read: each op's four cells. -/
import Derived.Test.YtfmilakgpocnnaaLawKit
import Derived.Test.YtfmilakgpocnnaaBitL
import Derived.Deep.Slices
namespace Go.Proofs.Ytfmilakgpocnnaa
open Go.RowKit Go.ChangeShapes Go.WideShapes Go.ChangeAt Go.Deep
set_option linter.unusedVariables false
/-- An op: what to do, its number, its count, its text. -/
structure OpR where
  d : Int
  v : Nat
  n : Int
  s : ByteArray
def OpsAt (w : World) (a : Option Addr) (l : List OpR) : Prop :=
  ∀ i (h : i < l.length), ∃ b off, a = some ⟨b, off, none⟩ ∧ b < w.heap.size ∧ w.cell? ⟨b, off + i * 4, none⟩ = some (.int .i64 (l[i]'h).d) ∧ w.cell? ⟨b, off + i * 4 + 1, none⟩ = some (.int .u32 (l[i]'h).v) ∧ w.cell? ⟨b, off + i * 4 + 2, none⟩ = some (.int .i64 (l[i]'h).n) ∧ w.cell? ⟨b, off + i * 4 + 3, none⟩ = some (.string (l[i]'h).s) ∧ (l[i]'h).v < 4294967296
theorem OpsAt.below {w w' : World} {a : Option Addr} {l : List OpR} (h : OpsAt w a l) (hb : Below w.heap.size w w') : OpsAt w' a l := fun i hi => by
  obtain ⟨b, off, e, hl, h0, h1, h2, h3, h4⟩ := h i hi
  exact ⟨b, off, e, Nat.lt_of_lt_of_le hl hb.size, (hb.cell (p := ⟨b, _, none⟩) hl).trans h0, (hb.cell (p := ⟨b, _, none⟩) hl).trans h1, (hb.cell (p := ⟨b, _, none⟩) hl).trans h2, (hb.cell (p := ⟨b, _, none⟩) hl).trans h3, h4⟩
theorem cells_op : Try.prog.cellsOf 30 = 4 := by kernel_rfl
section
variable {H : Type} {enc : TypeId × Value → H} {w : World} {base : Nat} {spare : Nat → Bool} {held : Bool}
set_option maxRecDepth 100000 in
theorem open_ops {n : Nat} {u : Value} {y : DataW H × List MemPlace} (h : DataW.trod enc Try.prog w base spare held n 22 [u] = some y) :
    ∃ (a : Option Addr) (len cap : Nat) (l : List OpR), u = .slice a len cap ∧ len ≤ 9223372036854775807 ∧ l.length = len ∧ OpsAt w a l := by
  rcases open_slice Try.underlying22 h with ⟨hcs, _⟩ | ⟨a, len, cap, mm, nn, D, Pl, hcs, _, hl, hcm, hm, _, hi⟩
  · simp only [List.cons.injEq, and_true] at hcs
    exact ⟨none, 0, 0, [], hcs, by omega, rfl, fun i hi => by simp at hi⟩
  · simp only [List.cons.injEq, and_true] at hcs
    have hlm : len ≤ mm := by rw [hm]; split <;> omega
    by_cases hz : len = 0
    · exact ⟨some a, len, cap, [], hcs, by omega, by simp [hz], fun i hi => by simp at hi⟩
    have hsp : a.spot = none := by
      obtain ⟨cs', hc, _⟩ := hi 0 (by omega)
      rw [cells_op] at hc
      obtain ⟨_, hcl, hat⟩ := World.cells?_some hc
      match cs', hcl with
      | [v0, v1, v2, v3], _ =>
        have c0 := hat 0 (by omega)
        simp only [List.getElem?_cons_zero] at c0
        simpa [Addr.add] using World.cell?_spot c0
    obtain ⟨b, off, sp⟩ := a
    obtain rfl : sp = none := hsp
    have key : ∀ i, i < len → ∃ p : OpR, ∃ b' off', some (⟨b, off, none⟩ : Addr) = some ⟨b', off', none⟩ ∧ b' < w.heap.size ∧ w.cell? ⟨b', off' + i * 4, none⟩ = some (.int .i64 p.d) ∧ w.cell? ⟨b', off' + i * 4 + 1, none⟩ = some (.int .u32 p.v) ∧ w.cell? ⟨b', off' + i * 4 + 2, none⟩ = some (.int .i64 p.n) ∧ w.cell? ⟨b', off' + i * 4 + 3, none⟩ = some (.string p.s) ∧ p.v < 4294967296 := fun i hlt => by
      obtain ⟨cs', hc, ht⟩ := hi i (by omega)
      rw [cells_op] at hc
      obtain ⟨_, hcl, hat⟩ := World.cells?_some hc
      obtain ⟨xs, n', _, hy, hlen, hxl, hf⟩ := DataW.trod_struct Try.underlying30 ht
      match cs', hcl with
      | [v0, v1, v2, v3], _ =>
        have h0 := hf 0 _ rfl
        have h1 := hf 1 _ rfl
        have h2 := hf 2 _ rfl
        have h3 := hf 3 _ rfl
        have e0 : xs[0]? = some (xs[0]'(by rw [hxl]; decide)) := List.getElem?_eq_getElem _
        have e1 : xs[1]? = some (xs[1]'(by rw [hxl]; decide)) := List.getElem?_eq_getElem _
        have e2 : xs[2]? = some (xs[2]'(by rw [hxl]; decide)) := List.getElem?_eq_getElem _
        have e3 : xs[3]? = some (xs[3]'(by rw [hxl]; decide)) := List.getElem?_eq_getElem _
        rw [e0] at h0
        rw [e1] at h1
        rw [e2] at h2
        rw [e3] at h3
        obtain ⟨x0, hx0, _⟩ := DataW.trod_int Try.underlying3 h0
        obtain ⟨x1, hx1, _, hw1⟩ := DataW.trod_int Try.underlying28 h1
        obtain ⟨x2, hx2, _⟩ := DataW.trod_int Try.underlying3 h2
        obtain ⟨x3, hx3, _⟩ := DataW.trod_string Try.underlying9 h3
        have c0 := hat 0 (by omega)
        have c1 := hat 1 (by omega)
        have c2 := hat 2 (by omega)
        have c3 := hat 3 (by omega)
        have v0e : v0 = .int .i64 x0 := by simpa [show Try.prog.cellsOf 3 = 1 from by kernel_rfl] using hx0
        have v1e : v1 = .int .u32 x1 := by simpa [show Try.prog.cellsOf 28 = 1 from by kernel_rfl] using hx1
        have v2e : v2 = .int .i64 x2 := by simpa [show Try.prog.cellsOf 3 = 1 from by kernel_rfl] using hx2
        have v3e : v3 = .string x3 := by simpa [show Try.prog.cellsOf 9 = 1 from by kernel_rfl] using hx3
        subst v0e v1e v2e v3e
        have hr1 : 0 ≤ x1 ∧ x1 < 4294967296 := by
          simp [Lit.wf, IntKind.min, IntKind.max, IntKind.bits, IntKind.signed] at hw1
          omega
        obtain ⟨y1, rfl⟩ := Int.eq_ofNat_of_zero_le hr1.1
        simp only [List.getElem?_cons_zero] at c0
        simp only [List.getElem?_cons_succ, List.getElem?_cons_zero] at c1 c2 c3
        have aj : ∀ j, (Addr.add (Addr.add ⟨b, off, none⟩ (i * 4)) j) = ⟨b, off + i * 4 + j, none⟩ := fun j => by
          unfold Addr.add
          by_cases hz : i * 4 = 0 <;> by_cases hj : j = 0 <;> simp [hz, hj]
        rw [aj] at c0 c1 c2 c3
        refine ⟨⟨x0, y1, x2, x3⟩, b, off, rfl, ?_, by simpa using c0, c1, c2, c3, by have := hr1.2; show y1 < 4294967296; omega⟩
        rcases Nat.lt_or_ge b w.heap.size with hlt' | hge
        · exact hlt'
        · simp [World.cell?, Array.getElem?_eq_none hge] at c0
    have hch : ∃ f : Nat → OpR, ∀ i, i < len → ∃ b' off', some (⟨b, off, none⟩ : Addr) = some ⟨b', off', none⟩ ∧ b' < w.heap.size ∧ w.cell? ⟨b', off' + i * 4, none⟩ = some (.int .i64 (f i).d) ∧ w.cell? ⟨b', off' + i * 4 + 1, none⟩ = some (.int .u32 (f i).v) ∧ w.cell? ⟨b', off' + i * 4 + 2, none⟩ = some (.int .i64 (f i).n) ∧ w.cell? ⟨b', off' + i * 4 + 3, none⟩ = some (.string (f i).s) ∧ (f i).v < 4294967296 :=
      ⟨fun i => if h : i < len then (key i h).choose else ⟨0, 0, 0, ⟨#[]⟩⟩, fun i h => by
        have := (key i h).choose_spec
        simpa [h] using this⟩
    obtain ⟨f, hf⟩ := hch
    refine ⟨some ⟨b, off, none⟩, len, cap, (List.range len).map f, hcs, by unfold maxLen at hcm; omega, by simp, fun i hi => ?_⟩
    have hi' : i < len := by simpa using hi
    have := hf i hi'
    simpa using this
end
end Go.Proofs.Ytfmilakgpocnnaa
