/- What the listed table gives the walks: its cells; and that the program's own start meets it. -/
import Derived.Test.YtkmbgkcpohchhaaGreatDoorDefL
import Derived.Test.YtkmbgkcpohchhaaGreatDoorRows
import Derived.Test.YtkmbgkcpohchhaaGreatDoorTie
import Derived.Test.YtkmbgkcpohchhaaGreatDoorCards
import Derived.ProofKit
import Derived.LaidMore
import Derived.OpenShut
import Derived.ChangeSame
import Derived.Stop.Joined
import Derived.SevenTiedAt
namespace Go.Proofs.YtkmbgkcpohchhaaGreatDoor
open Go.ChangeShapes Go.WideShapes Go.ChangeAt Go.WideMaps Go.WideElems Go.RowKit
theorem gOrd : Tryz.prog.globalNamed "mortise/deflate.order" = some 0 := by kernel_rfl
theorem tOrd : (Tryz.prog.globals[0]?).map (·.type) = some 124 := by kernel_rfl
theorem cInt : Tryz.prog.cellsOf 3 = 1 := by kernel_rfl
theorem own : ownKnob Tryz.prog.godebug = none := by kernel_rfl
theorem laidOut : laidOutB Tryz.prog = true := by kernel_rfl
theorem door_met (os : Os) (args : Array Value) : laidMetH Tryz.prog Rows.deflateDynamicRow.laid ((World.doorLaid Tryz.prog 400 os).forCall (fun _ _ => 0) ⟨#[], args, []⟩).memory :=
  laidMetH_of_parts3 (fuel := 8) (laidMet_of_run' 8 (by kernel_rfl) (by kernel_rfl)) (by kernel_rfl) (by kernel_rfl)
/-- What a listed array of ints holds. -/
theorem ints_laid {W : World} {base : Nat} {spare : Nat → Bool} {held : Bool} {H : Type} {enc : TypeId × Value → H} {n m : Nat} {t : TypeId} {cs : List Value} {ns : List Int} {q : List MemPlace} (ht : Tryz.prog.underlying t = some (.array n 3))
    (h : DataW.trod enc Tryz.prog W base spare held m t cs = some (.agg (ns.map fun x => .lit (.int .i64 x)), q)) (hn : ns.length = n) : ∀ i (hi : i < ns.length), cs[i]? = some (.int .i64 ns[i]) := by
  obtain ⟨xs, m1, rfl, hx1, hlen, hn3, hel⟩ := DataW.trod_array ht h
  obtain ⟨hl, _⟩ := Prod.mk.inj hx1
  have hl2 := DataW.agg.inj hl
  intro k hk
  have h1 := hel k (by omega)
  have hkx : k < xs.length := by omega
  rw [List.getElem?_eq_getElem hkx, cInt, Nat.mul_one] at h1
  obtain ⟨z, e1, e2, _⟩ := DataW.trod_int Tryz.underlying3 h1
  have h3 : (xs.map fun x => x.1)[k]? = some (.lit (.int .i64 z)) := by rw [List.getElem?_map, List.getElem?_eq_getElem hkx, e2]; rfl
  rw [← hl2, List.getElem?_map, List.getElem?_eq_getElem hk] at h3
  have h5 : ns[k] = z := by
    have := Option.some.inj h3
    simpa using this
  have h8 := congrArg (fun l => l[0]?) e1
  simp only [List.getElem?_take, List.getElem?_drop, Nat.add_zero] at h8
  rw [h5]
  simpa using h8
theorem ord_of {W : World} (h : laidMetH Tryz.prog Rows.deflateDynamicRow.laid W) : OrdAt W := by
  rw [MakeChecks.laidMetH_plain _ _ _ (by kernel_rfl)] at h
  obtain ⟨ps, ⟨g2, t2, cs2, f2, p2, q2, hg2, ht2, hv2, hd2, x2, _⟩, _, _⟩ := h
  obtain rfl := Option.some.inj (gOrd.symm.trans hg2)
  obtain rfl := Option.some.inj (tOrd.symm.trans ht2)
  have r2 := ints_laid (ns := dOrd.map fun x => ((x : Nat) : Int)) (n := 19) Tryz.underlying124 hd2 rfl
  have c2 : ∀ i, i < 19 → W.cell? ⟨0, i, none⟩ = some (.int .i64 (dO i : Nat)) := fun i hi => by
    rw [World.var?_cell hg2 hv2 i]
    have h := r2 i (by show i < 19; omega)
    unfold dO
    rw [List.getD_eq_getElem?_getD, List.getElem?_eq_getElem (show i < dOrd.length by show i < 19; omega)]
    simpa using h
  exact ⟨cell_lt (c2 0 (by omega)), c2⟩
theorem str_le {s : ByteArray} (h : s.data.toList.length ≤ reachBytes) : s.size ≤ 140737488351232 := by
  have h4 : s.size = s.data.toList.length := by simp
  have h5 : reachBytes = 140737488351232 := by decide
  omega
end Go.Proofs.YtkmbgkcpohchhaaGreatDoor
