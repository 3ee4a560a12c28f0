/- How a slice of tokens that came in, or was made, is read: each token's three cells. -/
import Derived.Test.YtacgnadhpgkcmaaDoorRows
import Derived.Test.YtacgnadhpgkcmaaDoorLawKit
import Derived.Test.YtacgnadhpgkcmaaDoorMatN
import Derived.Maps.AppendAt
import Derived.Deep.Slices
namespace Go.Proofs.YtacgnadhpgkcmaaDoor
open Go.RowKit Go.ChangeShapes Go.WideShapes Go.ChangeAt Go.Deep
set_option linter.unusedVariables false
def ToksAt (w : World) (a : Option Addr) (l : List TokR) : Prop :=
  ∀ i (h : i < l.length), ∃ b off, a = some ⟨b, off, none⟩ ∧ b < w.heap.size ∧ w.cell? ⟨b, off + i * 3, none⟩ = some (.int .u8 (l[i]'h).lit) ∧ w.cell? ⟨b, off + i * 3 + 1, none⟩ = some (.int .i64 (l[i]'h).len) ∧ w.cell? ⟨b, off + i * 3 + 2, none⟩ = some (.int .i64 (l[i]'h).dist) ∧ (l[i]'h).lit < 256
theorem ToksAt.below {w w' : World} {a : Option Addr} {l : List TokR} (h : ToksAt w a l) (hb : Below w.heap.size w w') : ToksAt w' a l := fun i hi => by
  obtain ⟨b, off, e, hl, h0, h1, h2, h4⟩ := h i hi
  exact ⟨b, off, e, Nat.lt_of_lt_of_le hl hb.size, (hb.cell (p := ⟨b, _, none⟩) hl).trans h0, (hb.cell (p := ⟨b, _, none⟩) hl).trans h1, (hb.cell (p := ⟨b, _, none⟩) hl).trans h2, h4⟩
theorem cells_tok : Tryd.prog.cellsOf 30 = 3 := by kernel_rfl
section
variable {H : Type} {enc : TypeId × Value → H} {w : World} {base : Nat} {spare : Nat → Bool} {held : Bool}
set_option maxRecDepth 100000 in
theorem open_toks {n : Nat} {u : Value} {y : DataW H × List MemPlace} (h : DataW.trod enc Tryd.prog w base spare held n 22 [u] = some y) :
    ∃ (a : Option Addr) (len cap : Nat) (l : List TokR), u = .slice a len cap ∧ len ≤ 9223372036854775807 ∧ l.length = len ∧ ToksAt w a l := by
  rcases open_slice Tryd.underlying22 h with ⟨hcs, _⟩ | ⟨a, len, cap, mm, nn, D, Pl, hcs, _, hl, hcm, hm, _, hi⟩
  · simp only [List.cons.injEq, and_true] at hcs
    exact ⟨none, 0, 0, [], hcs, by omega, rfl, fun i hi => by simp at hi⟩
  · simp only [List.cons.injEq, and_true] at hcs
    have hlm : len ≤ mm := by rw [hm]; split <;> omega
    by_cases hz : len = 0
    · exact ⟨some a, len, cap, [], hcs, by omega, by simp [hz], fun i hi => by simp at hi⟩
    have hsp : a.spot = none := by
      obtain ⟨cs', hc, _⟩ := hi 0 (by omega)
      rw [cells_tok] at hc
      obtain ⟨_, hcl, hat⟩ := World.cells?_some hc
      match cs', hcl with
      | [v0, v1, v2], _ =>
        have c0 := hat 0 (by omega)
        simp only [List.getElem?_cons_zero] at c0
        simpa [Addr.add] using World.cell?_spot c0
    obtain ⟨b, off, sp⟩ := a
    obtain rfl : sp = none := hsp
    have key : ∀ i, i < len → ∃ p : TokR, ∃ b' off', some (⟨b, off, none⟩ : Addr) = some ⟨b', off', none⟩ ∧ b' < w.heap.size ∧ w.cell? ⟨b', off' + i * 3, none⟩ = some (.int .u8 p.lit) ∧ w.cell? ⟨b', off' + i * 3 + 1, none⟩ = some (.int .i64 p.len) ∧ w.cell? ⟨b', off' + i * 3 + 2, none⟩ = some (.int .i64 p.dist) ∧ p.lit < 256 := fun i hlt => by
      obtain ⟨cs', hc, ht⟩ := hi i (by omega)
      rw [cells_tok] at hc
      obtain ⟨_, hcl, hat⟩ := World.cells?_some hc
      obtain ⟨xs, n', _, hy, hlen, hxl, hf⟩ := DataW.trod_struct Tryd.underlying30 ht
      match cs', hcl with
      | [v0, v1, v2], _ =>
        have h0 := hf 0 _ rfl
        have h1 := hf 1 _ rfl
        have h2 := hf 2 _ rfl
        have e0 : xs[0]? = some (xs[0]'(by rw [hxl]; decide)) := List.getElem?_eq_getElem _
        have e1 : xs[1]? = some (xs[1]'(by rw [hxl]; decide)) := List.getElem?_eq_getElem _
        have e2 : xs[2]? = some (xs[2]'(by rw [hxl]; decide)) := List.getElem?_eq_getElem _
        rw [e0] at h0
        rw [e1] at h1
        rw [e2] at h2
        obtain ⟨x0, hx0, _, hw0⟩ := DataW.trod_int Tryd.underlying5 h0
        obtain ⟨x1, hx1, _⟩ := DataW.trod_int Tryd.underlying3 h1
        obtain ⟨x2, hx2, _⟩ := DataW.trod_int Tryd.underlying3 h2
        have c0 := hat 0 (by omega)
        have c1 := hat 1 (by omega)
        have c2 := hat 2 (by omega)
        have v0e : v0 = .int .u8 x0 := by simpa [show Tryd.prog.cellsOf 5 = 1 from by kernel_rfl] using hx0
        have v1e : v1 = .int .i64 x1 := by simpa [show Tryd.prog.cellsOf 3 = 1 from by kernel_rfl] using hx1
        have v2e : v2 = .int .i64 x2 := by simpa [show Tryd.prog.cellsOf 3 = 1 from by kernel_rfl] using hx2
        subst v0e v1e v2e
        have hr0 : 0 ≤ x0 ∧ x0 < 256 := by
          simp [Lit.wf, IntKind.min, IntKind.max, IntKind.bits, IntKind.signed] at hw0
          omega
        obtain ⟨y0, rfl⟩ := Int.eq_ofNat_of_zero_le hr0.1
        simp only [List.getElem?_cons_zero] at c0
        simp only [List.getElem?_cons_succ, List.getElem?_cons_zero] at c1 c2
        have aj : ∀ j, (Addr.add (Addr.add ⟨b, off, none⟩ (i * 3)) j) = ⟨b, off + i * 3 + j, none⟩ := fun j => by
          unfold Addr.add
          by_cases hz : i * 3 = 0 <;> by_cases hj : j = 0 <;> simp [hz, hj]
        rw [aj] at c0 c1 c2
        refine ⟨⟨y0, x1, x2⟩, b, off, rfl, ?_, by simpa using c0, c1, c2, by have := hr0.2; show y0 < 256; omega⟩
        rcases Nat.lt_or_ge b w.heap.size with hlt' | hge
        · exact hlt'
        · simp [World.cell?, Array.getElem?_eq_none hge] at c0
    have hch : ∃ f : Nat → TokR, ∀ i, i < len → ∃ b' off', some (⟨b, off, none⟩ : Addr) = some ⟨b', off', none⟩ ∧ b' < w.heap.size ∧ w.cell? ⟨b', off' + i * 3, none⟩ = some (.int .u8 (f i).lit) ∧ w.cell? ⟨b', off' + i * 3 + 1, none⟩ = some (.int .i64 (f i).len) ∧ w.cell? ⟨b', off' + i * 3 + 2, none⟩ = some (.int .i64 (f i).dist) ∧ (f i).lit < 256 :=
      ⟨fun i => if h : i < len then (key i h).choose else ⟨0, 0, 0⟩, fun i h => by
        have := (key i h).choose_spec
        simpa [h] using this⟩
    obtain ⟨f, hf⟩ := hch
    refine ⟨some ⟨b, off, none⟩, len, cap, (List.range len).map f, hcs, by unfold maxLen at hcm; omega, by simp, fun i hi => ?_⟩
    have hi' : i < len := by simpa using hi
    have := hf i hi'
    simpa using this
end
def tokCell (o : TokR) : List Value := [.int .u8 o.lit, .int .i64 o.len, .int .i64 o.dist]
def tokCells (l : List TokR) : List Value := l.flatMap tokCell
theorem tokCells_snoc (l : List TokR) (o : TokR) : tokCells (l ++ [o]) = tokCells l ++ tokCell o := by simp [tokCells]
theorem tokCells_app (l m : List TokR) : tokCells (l ++ m) = tokCells l ++ tokCells m := by simp [tokCells]
theorem tokCells_len (l : List TokR) : (tokCells l).length = l.length * 3 := by
  induction l with
  | nil => rfl
  | cons o l ih =>
    have e : tokCells (o :: l) = tokCell o ++ tokCells l := by simp [tokCells]
    have e4 : (tokCell o).length = 3 := rfl
    rw [e, List.length_append, ih, List.length_cons]; omega
theorem tokCells_get (l : List TokR) (i : Nat) (h : i < l.length) (j : Nat) (hj : j < 3) : (tokCells l)[i * 3 + j]? = (tokCell l[i])[j]? := by
  induction l generalizing i with
  | nil => simp at h
  | cons o l ih =>
    have e : tokCells (o :: l) = tokCell o ++ tokCells l := by simp [tokCells]
    have e4 : (tokCell o).length = 3 := rfl
    rw [e]
    cases i with
    | zero =>
      rw [Nat.zero_mul, Nat.zero_add, List.getElem?_append_left (by omega)]
      rfl
    | succ i =>
      rw [List.getElem?_append_right (by omega), show (i + 1) * 3 + j - (tokCell o).length = i * 3 + j by omega]
      exact ih i (by simpa using h)
theorem toksAt_cells {w : World} {g : Nat} {l : List TokR} (hlt : l.length ≠ 0 → g < w.heap.size) (hc : ∀ j u, (tokCells l)[j]? = some u → w.cell? ⟨g, j, none⟩ = some u) (hv : ∀ o ∈ l, o.lit < 256) : ToksAt w (some ⟨g, 0, none⟩) l := fun i hi => by
  have key : ∀ j, j < 3 → ∀ u, (tokCell l[i])[j]? = some u → w.cell? ⟨g, 0 + i * 3 + j, none⟩ = some u := fun j hj u hu => by
    have := hc (i * 3 + j) u (by rw [tokCells_get l i hi j hj, hu])
    rw [Nat.zero_add]; exact this
  exact ⟨g, 0, rfl, hlt (by omega), key 0 (by omega) _ rfl, key 1 (by omega) _ rfl, key 2 (by omega) _ rfl, hv _ (List.getElem_mem _)⟩
theorem toksAt_own {w : World} {B : Nat} {ao : Option Addr} {n cap : Nat} {l : List TokR} (h : w.ownsRow B 30 3 (.slice ao n cap) l.length (tokCells l)) (hv : ∀ o ∈ l, o.lit < 256) : ToksAt w ao l := by
  rcases h.2 with ⟨h1, h2⟩ | ⟨g, cap', cur, h1, h3, h2, _⟩
  · intro i hi; omega
  · injection h1 with e1 e2 e3
    subst e1
    subst e2
    refine toksAt_cells (fun _ => (Array.getElem?_eq_some_iff.1 h2).1) (fun j u hu => ?_) hv
    have := h.cells (g := g) rfl j u hu
    have ea : (Addr.add ⟨g, 0, none⟩ j) = ⟨g, j, none⟩ := by
      unfold Addr.add
      by_cases hz : j = 0
      · simp [hz]
      · simp; omega
    rwa [ea] at this
end Go.Proofs.YtacgnadhpgkcmaaDoor
