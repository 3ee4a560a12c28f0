/- How a slice of api.Chunk that came in, or was made, is read: cell by cell. -/
import Derived.Test.YtgkgimfdbkpbdaaDoorRows
import Derived.Test.YtgkgimfdbkpbdaaDoorLawKit
import Derived.Test.YtgkgimfdbkpbdaaDoorWavP
import Derived.Maps.AppendAt
import Derived.Deep.Slices
namespace Go.Proofs.YtgkgimfdbkpbdaaDoor
open Go.RowKit Go.ChangeShapes Go.WideShapes Go.ChangeAt Go.Deep
set_option linter.unusedVariables false
/-- What its fields may hold. -/
def ChkR.Ok (x : ChkR) : Prop := x.typ.size ≤ 9223372036854775807 ∧ x.dat.size ≤ 9223372036854775807
def ChkAt (w : World) (a : Option Addr) (l : List ChkR) : Prop :=
  ∀ i (h : i < l.length), ∃ b off, a = some ⟨b, off, none⟩ ∧ b < w.heap.size ∧ w.cell? ⟨b, off + i * 2, none⟩ = some (.string (l[i]'h).typ) ∧ w.cell? ⟨b, off + i * 2 + 1, none⟩ = some (.string (l[i]'h).dat) ∧ (l[i]'h).Ok
theorem ChkAt.below {w w' : World} {a : Option Addr} {l : List ChkR} (h : ChkAt w a l) (hb : Below w.heap.size w w') : ChkAt w' a l := fun i hi => by
  obtain ⟨b, off, e, hl, h0, h1, hk⟩ := h i hi
  exact ⟨b, off, e, Nat.lt_of_lt_of_le hl hb.size, (hb.cell (p := ⟨b, _, none⟩) hl).trans h0, (hb.cell (p := ⟨b, _, none⟩) hl).trans h1, hk⟩
theorem cells_chk : Tryd.prog.cellsOf 42 = 2 := by kernel_rfl
section
variable {H : Type} {enc : TypeId × Value → H} {w : World} {base : Nat} {spare : Nat → Bool} {held : Bool}
set_option maxRecDepth 100000 in
set_option maxHeartbeats 1000000 in
theorem open_chk {n : Nat} {u : Value} {y : DataW H × List MemPlace} (h : DataW.trod enc Tryd.prog w base spare held n 23 [u] = some y) :
    ∃ (a : Option Addr) (len cap : Nat) (l : List ChkR), u = .slice a len cap ∧ len ≤ 9223372036854775807 ∧ l.length = len ∧ ChkAt w a l := by
  rcases open_slice Tryd.underlying23 h with ⟨hcs, _⟩ | ⟨a, len, cap, mm, nn, D, Pl, hcs, _, hl, hcm, hm, _, hi⟩
  · simp only [List.cons.injEq, and_true] at hcs
    exact ⟨none, 0, 0, [], hcs, by omega, rfl, fun i hi => by simp at hi⟩
  · simp only [List.cons.injEq, and_true] at hcs
    have hlm : len ≤ mm := by rw [hm]; split <;> omega
    by_cases hz : len = 0
    · exact ⟨some a, len, cap, [], hcs, by omega, by simp [hz], fun i hi => by simp at hi⟩
    have hsp : a.spot = none := by
      obtain ⟨cs', hc, _⟩ := hi 0 (by omega)
      rw [cells_chk] at hc
      obtain ⟨_, hcl, hat⟩ := World.cells?_some hc
      match cs', hcl with
      | [v0, v1], _ =>
        have c0 := hat 0 (by omega)
        simp only [List.getElem?_cons_zero] at c0
        simpa [Addr.add] using World.cell?_spot c0
    obtain ⟨b, off, sp⟩ := a
    obtain rfl : sp = none := hsp
    have key : ∀ i, i < len → ∃ p : ChkR, ∃ b' off', some (⟨b, off, none⟩ : Addr) = some ⟨b', off', none⟩ ∧ b' < w.heap.size ∧ w.cell? ⟨b', off' + i * 2, none⟩ = some (.string p.typ) ∧ w.cell? ⟨b', off' + i * 2 + 1, none⟩ = some (.string p.dat) ∧ p.Ok := fun i hlt => by
      obtain ⟨cs', hc, ht⟩ := hi i (by omega)
      rw [cells_chk] at hc
      obtain ⟨_, hcl, hat⟩ := World.cells?_some hc
      obtain ⟨xs, n', _, hy, hlen, hxl, hf⟩ := DataW.trod_struct Tryd.underlying42 ht
      match cs', hcl with
      | [v0, v1], _ =>
        have h0 := hf 0 _ rfl
        have h1 := hf 1 _ rfl
        have e0 : xs[0]? = some (xs[0]'(by rw [hxl]; decide)) := List.getElem?_eq_getElem _
        have e1 : xs[1]? = some (xs[1]'(by rw [hxl]; decide)) := List.getElem?_eq_getElem _
        rw [e0] at h0
        rw [e1] at h1
        obtain ⟨x0, hx0, _, hw0⟩ := DataW.trod_string Tryd.underlying9 h0
        obtain ⟨x1, hx1, _, hw1⟩ := DataW.trod_string Tryd.underlying9 h1
        have c0 := hat 0 (by omega)
        have c1 := hat 1 (by omega)
        have v0e : v0 = .string x0 := by simpa [show Tryd.prog.cellsOf 9 = 1 from by kernel_rfl] using hx0
        have v1e : v1 = .string x1 := by simpa [show Tryd.prog.cellsOf 9 = 1 from by kernel_rfl] using hx1
        subst v0e v1e
        simp only [List.getElem?_cons_zero] at c0
        simp only [List.getElem?_cons_succ, List.getElem?_cons_zero] at c1
        have aj : ∀ j, (Addr.add (Addr.add ⟨b, off, none⟩ (i * 2)) j) = ⟨b, off + i * 2 + j, none⟩ := fun j => by
          unfold Addr.add
          by_cases hz : i * 2 = 0 <;> by_cases hj : j = 0 <;> simp [hz, hj]
        rw [aj] at c0 c1
        refine ⟨⟨x0, x1⟩, b, off, rfl, ?_, by simpa using c0, c1, ⟨by have := hw0; unfold maxLen at this; exact this, by have := hw1; unfold maxLen at this; exact this⟩⟩
        rcases Nat.lt_or_ge b w.heap.size with hlt' | hge
        · exact hlt'
        · simp [World.cell?, Array.getElem?_eq_none hge] at c0
    have hch : ∃ f : Nat → ChkR, ∀ i, i < len → ∃ b' off', some (⟨b, off, none⟩ : Addr) = some ⟨b', off', none⟩ ∧ b' < w.heap.size ∧ w.cell? ⟨b', off' + i * 2, none⟩ = some (.string (f i).typ) ∧ w.cell? ⟨b', off' + i * 2 + 1, none⟩ = some (.string (f i).dat) ∧ (f i).Ok :=
      ⟨fun i => if h : i < len then (key i h).choose else ⟨⟨#[]⟩, ⟨#[]⟩⟩, fun i h => by
        have := (key i h).choose_spec
        simpa [h] using this⟩
    obtain ⟨f, hf⟩ := hch
    refine ⟨some ⟨b, off, none⟩, len, cap, (List.range len).map f, hcs, by unfold maxLen at hcm; omega, by simp, fun i hi => ?_⟩
    have hi' : i < len := by simpa using hi
    have := hf i hi'
    simpa using this
end
def chkCell (o : ChkR) : List Value := [.string o.typ, .string o.dat]
def chkCells (l : List ChkR) : List Value := l.flatMap chkCell
theorem chkCells_snoc (l : List ChkR) (o : ChkR) : chkCells (l ++ [o]) = chkCells l ++ chkCell o := by simp [chkCells]
theorem chkCells_app (l m : List ChkR) : chkCells (l ++ m) = chkCells l ++ chkCells m := by simp [chkCells]
theorem chkCells_len (l : List ChkR) : (chkCells l).length = l.length * 2 := by
  induction l with
  | nil => rfl
  | cons o l ih =>
    have e : chkCells (o :: l) = chkCell o ++ chkCells l := by simp [chkCells]
    have e4 : (chkCell o).length = 2 := rfl
    rw [e, List.length_append, ih, List.length_cons]; omega
theorem chkCells_get (l : List ChkR) (i : Nat) (h : i < l.length) (j : Nat) (hj : j < 2) : (chkCells l)[i * 2 + j]? = (chkCell l[i])[j]? := by
  induction l generalizing i with
  | nil => simp at h
  | cons o l ih =>
    have e : chkCells (o :: l) = chkCell o ++ chkCells l := by simp [chkCells]
    have e4 : (chkCell o).length = 2 := rfl
    rw [e]
    cases i with
    | zero =>
      rw [Nat.zero_mul, Nat.zero_add, List.getElem?_append_left (by omega)]
      rfl
    | succ i =>
      rw [List.getElem?_append_right (by omega), show (i + 1) * 2 + j - (chkCell o).length = i * 2 + j by omega]
      exact ih i (by simpa using h)
theorem ChkAt.of_cells {w : World} {g : Nat} {l : List ChkR} (hlt : l.length ≠ 0 → g < w.heap.size) (hc : ∀ j u, (chkCells l)[j]? = some u → w.cell? ⟨g, j, none⟩ = some u) (hv : ∀ o ∈ l, o.Ok) : ChkAt w (some ⟨g, 0, none⟩) l := fun i hi => by
  have key : ∀ j, j < 2 → ∀ u, (chkCell l[i])[j]? = some u → w.cell? ⟨g, 0 + i * 2 + j, none⟩ = some u := fun j hj u hu => by
    have := hc (i * 2 + j) u (by rw [chkCells_get l i hi j hj, hu])
    rw [Nat.zero_add]; exact this
  exact ⟨g, 0, rfl, hlt (by omega), key 0 (by omega) _ rfl, key 1 (by omega) _ rfl, hv _ (List.getElem_mem _)⟩
theorem ChkAt.of_own {w : World} {B : Nat} {ao : Option Addr} {n cap : Nat} {l : List ChkR} (h : w.ownsRow B 42 2 (.slice ao n cap) l.length (chkCells l)) (hv : ∀ o ∈ l, o.Ok) : ChkAt w ao l := by
  rcases h.2 with ⟨h1, h2⟩ | ⟨g, cap', cur, h1, h3, h2, _⟩
  · intro i hi; omega
  · injection h1 with e1 e2 e3
    subst e1
    subst e2
    refine ChkAt.of_cells (fun _ => (Array.getElem?_eq_some_iff.1 h2).1) (fun j u hu => ?_) hv
    have := h.cells (g := g) rfl j u hu
    have ea : (Addr.add ⟨g, 0, none⟩ j) = ⟨g, j, none⟩ := by
      unfold Addr.add
      by_cases hz : j = 0
      · simp [hz]
      · simp; omega
    rwa [ea] at this
theorem chkInfo : (Tryd.prog.info? 42).map (fun i => (i.zero, i.size, i.bytes)) = some (some (.agg #[.string ⟨#[]⟩, .string ⟨#[]⟩]), 2, 32) := by kernel_rfl
end Go.Proofs.YtgkgimfdbkpbdaaDoor
