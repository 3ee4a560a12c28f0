/- What the four listed tables give the walks: their cells; and that the program's own start meets them. -/
import Derived.Test.YtkmbgkcpohchhaaGreatDoorInfO
import Derived.Test.YtkmbgkcpohchhaaGreatDoorGDefV
import Derived.Test.YtkmbgkcpohchhaaGreatDoorRows
import Derived.Test.YtkmbgkcpohchhaaGreatDoorTie
import Derived.Test.YtkmbgkcpohchhaaGreatDoorCards
import Derived.ProofKit
import Derived.LaidMore
import Derived.OpenShut
import Derived.ChangeSame
import Derived.Stop.Joined
import Derived.SevenTiedAt
namespace Go.Proofs.YtkmbgkcpohchhaaGreatDoor
open Go.ChangeShapes Go.WideShapes Go.ChangeAt Go.WideMaps Go.WideElems Go.RowKit
theorem gDor : Tryz.prog.globalNamed "mortise/deflate.order" = some 0 := by kernel_rfl
theorem tDor : (Tryz.prog.globals[0]?).map (·.type) = some 124 := by kernel_rfl
theorem gLen : Tryz.prog.globalNamed "mortise/inflate.lengths" = some 2 := by kernel_rfl
theorem tLen : (Tryz.prog.globals[2]?).map (·.type) = some 199 := by kernel_rfl
theorem gDist : Tryz.prog.globalNamed "mortise/inflate.distances" = some 3 := by kernel_rfl
theorem tDist : (Tryz.prog.globals[3]?).map (·.type) = some 201 := by kernel_rfl
theorem gOrd : Tryz.prog.globalNamed "mortise/inflate.order" = some 1 := by kernel_rfl
theorem tOrd : (Tryz.prog.globals[1]?).map (·.type) = some 124 := by kernel_rfl
theorem cInt : Tryz.prog.cellsOf 3 = 1 := by kernel_rfl
theorem cRow : Tryz.prog.cellsOf 198 = 2 := by kernel_rfl
theorem own : ownKnob Tryz.prog.godebug = none := by kernel_rfl
theorem laidOut : laidOutB Tryz.prog = true := by kernel_rfl
theorem door_met (os : Os) (args : Array Value) : laidMetH Tryz.prog Rows.deflateInflateRow.laid ((World.doorLaid Tryz.prog 400 os).forCall (fun _ _ => 0) ⟨#[], args, []⟩).memory :=
  laidMetH_of_parts3 (fuel := 8) (laidMet_of_run' 8 (by kernel_rfl) (by kernel_rfl)) (by kernel_rfl) (by kernel_rfl)
/-- What a listed array of ints holds. -/
theorem ints_laid {W : World} {base : Nat} {spare : Nat → Bool} {held : Bool} {H : Type} {enc : TypeId × Value → H} {n m : Nat} {t : TypeId} {cs : List Value} {ns : List Int} {q : List MemPlace} (ht : Tryz.prog.underlying t = some (.array n 3))
    (h : DataW.trod enc Tryz.prog W base spare held m t cs = some (.agg (ns.map fun x => .lit (.int .i64 x)), q)) (hn : ns.length = n) : ∀ i (hi : i < ns.length), cs[i]? = some (.int .i64 ns[i]) := by
  obtain ⟨xs, m1, rfl, hx1, hlen, hn3, hel⟩ := DataW.trod_array ht h
  obtain ⟨hl, _⟩ := Prod.mk.inj hx1
  have hl2 := DataW.agg.inj hl
  intro k hk
  have h1 := hel k (by omega)
  have hkx : k < xs.length := by omega
  rw [List.getElem?_eq_getElem hkx, cInt, Nat.mul_one] at h1
  obtain ⟨z, e1, e2, _⟩ := DataW.trod_int Tryz.underlying3 h1
  have h3 : (xs.map fun x => x.1)[k]? = some (.lit (.int .i64 z)) := by rw [List.getElem?_map, List.getElem?_eq_getElem hkx, e2]; rfl
  rw [← hl2, List.getElem?_map, List.getElem?_eq_getElem hk] at h3
  have h5 : ns[k] = z := by
    have := Option.some.inj h3
    simpa using this
  have h8 := congrArg (fun l => l[0]?) e1
  simp only [List.getElem?_take, List.getElem?_drop, Nat.add_zero] at h8
  rw [h5]
  simpa using h8
/-- What a listed array of rows holds. -/
theorem rows_laid {W : World} {base : Nat} {spare : Nat → Bool} {held : Bool} {H : Type} {enc : TypeId × Value → H} {n m : Nat} {t : TypeId} {cs : List Value} {ns : List (Nat × Nat)} {q : List MemPlace} (ht : Tryz.prog.underlying t = some (.array n 198))
    (h : DataW.trod enc Tryz.prog W base spare held m t cs = some (.agg (ns.map fun x => .agg [.lit (.int .i64 (x.1 : Nat)), .lit (.int .i64 (x.2 : Nat))]), q)) (hn : ns.length = n) :
    ∀ i (hi : i < ns.length), cs[i * 2]? = some (.int .i64 (ns[i].1 : Nat)) ∧ cs[i * 2 + 1]? = some (.int .i64 (ns[i].2 : Nat)) := by
  obtain ⟨xs, m1, rfl, hx1, hlen, hn3, hel⟩ := DataW.trod_array ht h
  obtain ⟨hl, _⟩ := Prod.mk.inj hx1
  have hl2 := DataW.agg.inj hl
  intro k hk
  have h1 := hel k (by omega)
  have hkx : k < xs.length := by omega
  rw [List.getElem?_eq_getElem hkx, cRow] at h1
  obtain ⟨y0, y1, m2, e1, e2, e3, e4⟩ := trod_struct2 Tryz.underlying198 h1
  simp only [cInt] at e3 e4
  obtain ⟨z0, f1, f2, _⟩ := DataW.trod_int Tryz.underlying3 e3
  obtain ⟨z1, g1, g2, _⟩ := DataW.trod_int Tryz.underlying3 e4
  have h3 : (xs.map fun x => x.1)[k]? = some (.agg [.lit (.int .i64 z0), .lit (.int .i64 z1)]) := by
    rw [List.getElem?_map, List.getElem?_eq_getElem hkx, e1, f2, g2]; rfl
  rw [← hl2, List.getElem?_map, List.getElem?_eq_getElem hk] at h3
  have h5 : (ns[k].1 : Int) = z0 ∧ (ns[k].2 : Int) = z1 := by
    have := Option.some.inj h3
    simpa using this
  have h8 := congrArg (fun l => l[0]?) f1
  have h9 := congrArg (fun l => l[0]?) g1
  simp only [List.getElem?_take, List.getElem?_drop, Nat.add_zero] at h8 h9
  rw [h5.1, h5.2]
  exact ⟨by simpa using h8, by simpa using h9⟩
theorem str_le {s : ByteArray} (h : s.data.toList.length ≤ reachBytes) : s.size ≤ 140737488351232 := by
  have h4 : s.size = s.data.toList.length := by simp
  have h5 : reachBytes = 140737488351232 := by decide
  omega
/-- Both tables of the program. -/
structure Both (w : World) : Prop where
  ord : OrdAt w
  tab : Tabs w.heap.size w
theorem Both.bw {w w' : World} (h : Both w) (hb : Bw w w') : Both w' := ⟨h.ord.bw hb, h.tab.bw hb⟩
theorem both_of {W : World} (h : laidMetH Tryz.prog Rows.deflateInflateRow.laid W) : Both W := by
  rw [MakeChecks.laidMetH_plain _ _ _ (by kernel_rfl)] at h
  obtain ⟨ps, ⟨g3, t3, cs3, f3, p3, q3, hg3, ht3, hv3, hd3, x3, _⟩, _, _⟩ := h
  obtain ⟨g0, t0, cs0, f0, p0, q0, hg0, ht0, hv0, hd0, x0, _⟩ := x3
  obtain ⟨g1, t1, cs1, f1, p1, q1, hg1, ht1, hv1, hd1, x1, _⟩ := x0
  obtain ⟨g2, t2, cs2, f2, p2, q2, hg2, ht2, hv2, hd2, x2, _⟩ := x1
  obtain rfl := Option.some.inj (gDor.symm.trans hg3)
  obtain rfl := Option.some.inj (tDor.symm.trans ht3)
  obtain rfl := Option.some.inj (gLen.symm.trans hg0)
  obtain rfl := Option.some.inj (tLen.symm.trans ht0)
  obtain rfl := Option.some.inj (gDist.symm.trans hg1)
  obtain rfl := Option.some.inj (tDist.symm.trans ht1)
  obtain rfl := Option.some.inj (gOrd.symm.trans hg2)
  obtain rfl := Option.some.inj (tOrd.symm.trans ht2)
  have r3 := ints_laid (ns := dOrd.map fun x => ((x : Nat) : Int)) (n := 19) Tryz.underlying124 hd3 rfl
  have c3 : ∀ i, i < 19 → W.cell? ⟨0, i, none⟩ = some (.int .i64 (dO i : Nat)) := fun i hi => by
    rw [World.var?_cell hg3 hv3 i]
    have h := r3 i (by show i < 19; omega)
    unfold dO
    rw [List.getD_eq_getElem?_getD, List.getElem?_eq_getElem (show i < dOrd.length by show i < 19; omega)]
    simpa using h
  have r0 := rows_laid (ns := lenT) (n := 29) Tryz.underlying199 hd0 rfl
  have r1 := rows_laid (ns := distT) (n := 30) Tryz.underlying201 hd1 rfl
  have r2 := ints_laid (ns := ordL.map fun x => ((x : Nat) : Int)) (n := 19) Tryz.underlying124 hd2 rfl
  have c0 : ∀ i, i < 58 → W.cell? ⟨2, i, none⟩ = some (lenC_i i) := fun i hi => by
    rw [World.var?_cell hg0 hv0 i]
    have h := r0 (i / 2) (by show i / 2 < 29; omega)
    unfold lenC_i lenR
    rw [List.getD_eq_getElem?_getD, List.getElem?_eq_getElem (show i / 2 < lenT.length by show i / 2 < 29; omega)]
    by_cases h2 : i % 2 = 0
    · rw [if_pos h2]
      have := h.1
      rw [show i / 2 * 2 = i by omega] at this
      simpa using this
    · rw [if_neg h2]
      have := h.2
      rw [show i / 2 * 2 + 1 = i by omega] at this
      simpa using this
  have c1 : ∀ i, i < 60 → W.cell? ⟨3, i, none⟩ = some (distC i) := fun i hi => by
    rw [World.var?_cell hg1 hv1 i]
    have h := r1 (i / 2) (by show i / 2 < 30; omega)
    unfold distC distR
    rw [List.getD_eq_getElem?_getD, List.getElem?_eq_getElem (show i / 2 < distT.length by show i / 2 < 30; omega)]
    by_cases h2 : i % 2 = 0
    · rw [if_pos h2]
      have := h.1
      rw [show i / 2 * 2 = i by omega] at this
      simpa using this
    · rw [if_neg h2]
      have := h.2
      rw [show i / 2 * 2 + 1 = i by omega] at this
      simpa using this
  have c2 : ∀ i, i < 19 → W.cell? ⟨1, i, none⟩ = some (ordC i) := fun i hi => by
    rw [World.var?_cell hg2 hv2 i]
    have h := r2 i (by show i < 19; omega)
    unfold ordC
    rw [List.getD_eq_getElem?_getD, List.getElem?_eq_getElem (show i < ordL.length by show i < 19; omega)]
    simpa using h
  exact ⟨⟨cell_lt (c3 0 (by omega)), c3⟩, ⟨cell_lt (c0 0 (by omega)), c0⟩, ⟨cell_lt (c1 0 (by omega)), c1⟩, ⟨cell_lt (c2 0 (by omega)), c2⟩⟩
end Go.Proofs.YtkmbgkcpohchhaaGreatDoor
