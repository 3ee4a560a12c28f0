/- How a slice of api.Exp that came in, or was made, is read: cell by cell. -/
import Derived.Test.YtlilmidffcmkjaaGreatDoorRows
import Derived.Test.YtlilmidffcmkjaaGreatDoorLawKit
import Derived.Test.YtlilmidffcmkjaaGreatDoorPlnE
import Derived.Maps.AppendAt
import Derived.Deep.Slices
namespace Go.Proofs.YtlilmidffcmkjaaGreatDoor
open Go.RowKit Go.ChangeShapes Go.WideShapes Go.ChangeAt Go.Deep
set_option linter.unusedVariables false
/-- What its fields may hold. -/
def ExpR.Ok (x : ExpR) : Prop := x.op.size ≤ 9223372036854775807 ∧ x.name.size ≤ 9223372036854775807 ∧ x.n < 18446744073709551616 ∧ (-9223372036854775808 ≤ x.l ∧ x.l ≤ 9223372036854775807) ∧ (-9223372036854775808 ≤ x.r ∧ x.r ≤ 9223372036854775807)
def ExpAt (w : World) (a : Option Addr) (l : List ExpR) : Prop :=
  ∀ i (h : i < l.length), ∃ b off, a = some ⟨b, off, none⟩ ∧ b < w.heap.size ∧ w.cell? ⟨b, off + i * 5, none⟩ = some (.string (l[i]'h).op) ∧ w.cell? ⟨b, off + i * 5 + 1, none⟩ = some (.string (l[i]'h).name) ∧ w.cell? ⟨b, off + i * 5 + 2, none⟩ = some (.int .u64 (l[i]'h).n) ∧ w.cell? ⟨b, off + i * 5 + 3, none⟩ = some (.int .i64 (l[i]'h).l) ∧ w.cell? ⟨b, off + i * 5 + 4, none⟩ = some (.int .i64 (l[i]'h).r) ∧ (l[i]'h).Ok
theorem ExpAt.below {w w' : World} {a : Option Addr} {l : List ExpR} (h : ExpAt w a l) (hb : Below w.heap.size w w') : ExpAt w' a l := fun i hi => by
  obtain ⟨b, off, e, hl, h0, h1, h2, h3, h4, hk⟩ := h i hi
  exact ⟨b, off, e, Nat.lt_of_lt_of_le hl hb.size, (hb.cell (p := ⟨b, _, none⟩) hl).trans h0, (hb.cell (p := ⟨b, _, none⟩) hl).trans h1, (hb.cell (p := ⟨b, _, none⟩) hl).trans h2, (hb.cell (p := ⟨b, _, none⟩) hl).trans h3, (hb.cell (p := ⟨b, _, none⟩) hl).trans h4, hk⟩
theorem cells_exp : Tryz.prog.cellsOf 42 = 5 := by kernel_rfl
section
variable {H : Type} {enc : TypeId × Value → H} {w : World} {base : Nat} {spare : Nat → Bool} {held : Bool}
set_option maxRecDepth 100000 in
set_option maxHeartbeats 1000000 in
theorem open_exp {n : Nat} {u : Value} {y : DataW H × List MemPlace} (h : DataW.trod enc Tryz.prog w base spare held n 22 [u] = some y) :
    ∃ (a : Option Addr) (len cap : Nat) (l : List ExpR), u = .slice a len cap ∧ len ≤ 9223372036854775807 ∧ l.length = len ∧ ExpAt w a l := by
  rcases open_slice Tryz.underlying22 h with ⟨hcs, _⟩ | ⟨a, len, cap, mm, nn, D, Pl, hcs, _, hl, hcm, hm, _, hi⟩
  · simp only [List.cons.injEq, and_true] at hcs
    exact ⟨none, 0, 0, [], hcs, by omega, rfl, fun i hi => by simp at hi⟩
  · simp only [List.cons.injEq, and_true] at hcs
    have hlm : len ≤ mm := by rw [hm]; split <;> omega
    by_cases hz : len = 0
    · exact ⟨some a, len, cap, [], hcs, by omega, by simp [hz], fun i hi => by simp at hi⟩
    have hsp : a.spot = none := by
      obtain ⟨cs', hc, _⟩ := hi 0 (by omega)
      rw [cells_exp] at hc
      obtain ⟨_, hcl, hat⟩ := World.cells?_some hc
      match cs', hcl with
      | [v0, v1, v2, v3, v4], _ =>
        have c0 := hat 0 (by omega)
        simp only [List.getElem?_cons_zero] at c0
        simpa [Addr.add] using World.cell?_spot c0
    obtain ⟨b, off, sp⟩ := a
    obtain rfl : sp = none := hsp
    have key : ∀ i, i < len → ∃ p : ExpR, ∃ b' off', some (⟨b, off, none⟩ : Addr) = some ⟨b', off', none⟩ ∧ b' < w.heap.size ∧ w.cell? ⟨b', off' + i * 5, none⟩ = some (.string p.op) ∧ w.cell? ⟨b', off' + i * 5 + 1, none⟩ = some (.string p.name) ∧ w.cell? ⟨b', off' + i * 5 + 2, none⟩ = some (.int .u64 p.n) ∧ w.cell? ⟨b', off' + i * 5 + 3, none⟩ = some (.int .i64 p.l) ∧ w.cell? ⟨b', off' + i * 5 + 4, none⟩ = some (.int .i64 p.r) ∧ p.Ok := fun i hlt => by
      obtain ⟨cs', hc, ht⟩ := hi i (by omega)
      rw [cells_exp] at hc
      obtain ⟨_, hcl, hat⟩ := World.cells?_some hc
      obtain ⟨xs, n', _, hy, hlen, hxl, hf⟩ := DataW.trod_struct Tryz.underlying42 ht
      match cs', hcl with
      | [v0, v1, v2, v3, v4], _ =>
        have h0 := hf 0 _ rfl
        have h1 := hf 1 _ rfl
        have h2 := hf 2 _ rfl
        have h3 := hf 3 _ rfl
        have h4 := hf 4 _ rfl
        have e0 : xs[0]? = some (xs[0]'(by rw [hxl]; decide)) := List.getElem?_eq_getElem _
        have e1 : xs[1]? = some (xs[1]'(by rw [hxl]; decide)) := List.getElem?_eq_getElem _
        have e2 : xs[2]? = some (xs[2]'(by rw [hxl]; decide)) := List.getElem?_eq_getElem _
        have e3 : xs[3]? = some (xs[3]'(by rw [hxl]; decide)) := List.getElem?_eq_getElem _
        have e4 : xs[4]? = some (xs[4]'(by rw [hxl]; decide)) := List.getElem?_eq_getElem _
        rw [e0] at h0
        rw [e1] at h1
        rw [e2] at h2
        rw [e3] at h3
        rw [e4] at h4
        obtain ⟨x0, hx0, _, hw0⟩ := DataW.trod_string Tryz.underlying9 h0
        obtain ⟨x1, hx1, _, hw1⟩ := DataW.trod_string Tryz.underlying9 h1
        obtain ⟨x2, hx2, _, hw2⟩ := DataW.trod_int Tryz.underlying40 h2
        obtain ⟨x3, hx3, _, hw3⟩ := DataW.trod_int Tryz.underlying3 h3
        obtain ⟨x4, hx4, _, hw4⟩ := DataW.trod_int Tryz.underlying3 h4
        have c0 := hat 0 (by omega)
        have c1 := hat 1 (by omega)
        have c2 := hat 2 (by omega)
        have c3 := hat 3 (by omega)
        have c4 := hat 4 (by omega)
        have v0e : v0 = .string x0 := by simpa [show Tryz.prog.cellsOf 9 = 1 from by kernel_rfl] using hx0
        have v1e : v1 = .string x1 := by simpa [show Tryz.prog.cellsOf 9 = 1 from by kernel_rfl] using hx1
        have v2e : v2 = .int .u64 x2 := by simpa [show Tryz.prog.cellsOf 40 = 1 from by kernel_rfl] using hx2
        have v3e : v3 = .int .i64 x3 := by simpa [show Tryz.prog.cellsOf 3 = 1 from by kernel_rfl] using hx3
        have v4e : v4 = .int .i64 x4 := by simpa [show Tryz.prog.cellsOf 3 = 1 from by kernel_rfl] using hx4
        subst v0e v1e v2e v3e v4e
        have hr2 : 0 ≤ x2 ∧ x2 < 18446744073709551616 := by
          simp [Lit.wf, IntKind.min, IntKind.max, IntKind.bits, IntKind.signed] at hw2
          omega
        obtain ⟨y2, rfl⟩ := Int.eq_ofNat_of_zero_le hr2.1
        have hr3 : -9223372036854775808 ≤ x3 ∧ x3 ≤ 9223372036854775807 := by
          simp [Lit.wf, IntKind.min, IntKind.max, IntKind.bits, IntKind.signed] at hw3
          omega
        have hr4 : -9223372036854775808 ≤ x4 ∧ x4 ≤ 9223372036854775807 := by
          simp [Lit.wf, IntKind.min, IntKind.max, IntKind.bits, IntKind.signed] at hw4
          omega
        simp only [List.getElem?_cons_zero] at c0
        simp only [List.getElem?_cons_succ, List.getElem?_cons_zero] at c1 c2 c3 c4
        have aj : ∀ j, (Addr.add (Addr.add ⟨b, off, none⟩ (i * 5)) j) = ⟨b, off + i * 5 + j, none⟩ := fun j => by
          unfold Addr.add
          by_cases hz : i * 5 = 0 <;> by_cases hj : j = 0 <;> simp [hz, hj]
        rw [aj] at c0 c1 c2 c3 c4
        refine ⟨⟨x0, x1, y2, x3, x4⟩, b, off, rfl, ?_, by simpa using c0, c1, c2, c3, c4, ⟨by have := hw0; unfold maxLen at this; exact this, by have := hw1; unfold maxLen at this; exact this, by have := hr2.2; show y2 < _; omega, hr3, hr4⟩⟩
        rcases Nat.lt_or_ge b w.heap.size with hlt' | hge
        · exact hlt'
        · simp [World.cell?, Array.getElem?_eq_none hge] at c0
    have hch : ∃ f : Nat → ExpR, ∀ i, i < len → ∃ b' off', some (⟨b, off, none⟩ : Addr) = some ⟨b', off', none⟩ ∧ b' < w.heap.size ∧ w.cell? ⟨b', off' + i * 5, none⟩ = some (.string (f i).op) ∧ w.cell? ⟨b', off' + i * 5 + 1, none⟩ = some (.string (f i).name) ∧ w.cell? ⟨b', off' + i * 5 + 2, none⟩ = some (.int .u64 (f i).n) ∧ w.cell? ⟨b', off' + i * 5 + 3, none⟩ = some (.int .i64 (f i).l) ∧ w.cell? ⟨b', off' + i * 5 + 4, none⟩ = some (.int .i64 (f i).r) ∧ (f i).Ok :=
      ⟨fun i => if h : i < len then (key i h).choose else ⟨⟨#[]⟩, ⟨#[]⟩, 0, 0, 0⟩, fun i h => by
        have := (key i h).choose_spec
        simpa [h] using this⟩
    obtain ⟨f, hf⟩ := hch
    refine ⟨some ⟨b, off, none⟩, len, cap, (List.range len).map f, hcs, by unfold maxLen at hcm; omega, by simp, fun i hi => ?_⟩
    have hi' : i < len := by simpa using hi
    have := hf i hi'
    simpa using this
end
def expCell (o : ExpR) : List Value := [.string o.op, .string o.name, .int .u64 o.n, .int .i64 o.l, .int .i64 o.r]
def expCells (l : List ExpR) : List Value := l.flatMap expCell
theorem expCells_snoc (l : List ExpR) (o : ExpR) : expCells (l ++ [o]) = expCells l ++ expCell o := by simp [expCells]
theorem expCells_app (l m : List ExpR) : expCells (l ++ m) = expCells l ++ expCells m := by simp [expCells]
theorem expCells_len (l : List ExpR) : (expCells l).length = l.length * 5 := by
  induction l with
  | nil => rfl
  | cons o l ih =>
    have e : expCells (o :: l) = expCell o ++ expCells l := by simp [expCells]
    have e4 : (expCell o).length = 5 := rfl
    rw [e, List.length_append, ih, List.length_cons]; omega
theorem expCells_get (l : List ExpR) (i : Nat) (h : i < l.length) (j : Nat) (hj : j < 5) : (expCells l)[i * 5 + j]? = (expCell l[i])[j]? := by
  induction l generalizing i with
  | nil => simp at h
  | cons o l ih =>
    have e : expCells (o :: l) = expCell o ++ expCells l := by simp [expCells]
    have e4 : (expCell o).length = 5 := rfl
    rw [e]
    cases i with
    | zero =>
      rw [Nat.zero_mul, Nat.zero_add, List.getElem?_append_left (by omega)]
      rfl
    | succ i =>
      rw [List.getElem?_append_right (by omega), show (i + 1) * 5 + j - (expCell o).length = i * 5 + j by omega]
      exact ih i (by simpa using h)
theorem ExpAt.of_cells {w : World} {g : Nat} {l : List ExpR} (hlt : l.length ≠ 0 → g < w.heap.size) (hc : ∀ j u, (expCells l)[j]? = some u → w.cell? ⟨g, j, none⟩ = some u) (hv : ∀ o ∈ l, o.Ok) : ExpAt w (some ⟨g, 0, none⟩) l := fun i hi => by
  have key : ∀ j, j < 5 → ∀ u, (expCell l[i])[j]? = some u → w.cell? ⟨g, 0 + i * 5 + j, none⟩ = some u := fun j hj u hu => by
    have := hc (i * 5 + j) u (by rw [expCells_get l i hi j hj, hu])
    rw [Nat.zero_add]; exact this
  exact ⟨g, 0, rfl, hlt (by omega), key 0 (by omega) _ rfl, key 1 (by omega) _ rfl, key 2 (by omega) _ rfl, key 3 (by omega) _ rfl, key 4 (by omega) _ rfl, hv _ (List.getElem_mem _)⟩
theorem ExpAt.of_own {w : World} {B : Nat} {ao : Option Addr} {n cap : Nat} {l : List ExpR} (h : w.ownsRow B 42 5 (.slice ao n cap) l.length (expCells l)) (hv : ∀ o ∈ l, o.Ok) : ExpAt w ao l := by
  rcases h.2 with ⟨h1, h2⟩ | ⟨g, cap', cur, h1, h3, h2, _⟩
  · intro i hi; omega
  · injection h1 with e1 e2 e3
    subst e1
    subst e2
    refine ExpAt.of_cells (fun _ => (Array.getElem?_eq_some_iff.1 h2).1) (fun j u hu => ?_) hv
    have := h.cells (g := g) rfl j u hu
    have ea : (Addr.add ⟨g, 0, none⟩ j) = ⟨g, j, none⟩ := by
      unfold Addr.add
      by_cases hz : j = 0
      · simp [hz]
      · simp; omega
    rwa [ea] at this
theorem expInfo : (Tryz.prog.info? 42).map (fun i => (i.zero, i.size, i.bytes)) = some (some (.agg #[.string ⟨#[]⟩, .string ⟨#[]⟩, .int .u64 0, .int .i64 0, .int .i64 0]), 5, 56) := by kernel_rfl
end Go.Proofs.YtlilmidffcmkjaaGreatDoor
