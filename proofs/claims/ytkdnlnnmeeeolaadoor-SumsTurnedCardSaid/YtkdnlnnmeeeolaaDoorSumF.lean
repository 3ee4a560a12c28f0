/- What the listed table gives the walks: its sixteen cells; and that the program's own start meets it. -/
import Derived.Test.YtkdnlnnmeeeolaaDoorSumA
import Derived.Test.YtkdnlnnmeeeolaaDoorRows
import Derived.Test.YtkdnlnnmeeeolaaDoorTie
import Derived.Test.YtkdnlnnmeeeolaaDoorCards
import Derived.ProofKit
import Derived.LaidMore
import Derived.OpenShut
import Derived.Stop.Joined
import Derived.SevenTiedAt
namespace Go.Proofs.YtkdnlnnmeeeolaaDoor
open Go.ChangeShapes Go.WideShapes Go.ChangeAt Go.WideMaps Go.WideElems Go.RowKit
theorem gHalves : Tryd.prog.globalNamed "mortise/sums.halves" = some 0 := by kernel_rfl
theorem tHalves : (Tryd.prog.globals[0]?).map (·.type) = some 36 := by kernel_rfl
theorem c22 : Tryd.prog.cellsOf 22 = 1 := by kernel_rfl
theorem own : ownKnob Tryd.prog.godebug = none := by kernel_rfl
theorem laidOut : laidOutB Tryd.prog = true := by kernel_rfl
theorem door_met (os : Os) (args : Array Value) : laidMetH Tryd.prog Rows.sumsCrcRow.laid ((World.doorLaid Tryd.prog 400 os).forCall (fun _ _ => 0) ⟨#[], args, []⟩).memory :=
  laidMetH_of_parts3 (fuel := 8) (laidMet_of_run' 8 (by kernel_rfl) (by kernel_rfl)) (by kernel_rfl) (by kernel_rfl)
theorem halves_of {W : World} (h : laidMetH Tryd.prog Rows.sumsCrcRow.laid W) : Halves W := by
  rw [MakeChecks.laidMetH_plain _ _ _ (by kernel_rfl)] at h
  obtain ⟨ps, ⟨g0, t0, cs0, f0, p0, q0, hg0, ht0, hv0, hd0, _, _⟩, _, _⟩ := h
  obtain rfl := Option.some.inj (gHalves.symm.trans hg0)
  obtain rfl := Option.some.inj (tHalves.symm.trans ht0)
  obtain ⟨xs, m1, rfl, hx1, hlen, hn3, hel⟩ := DataW.trod_array Tryd.underlying36 hd0
  obtain ⟨hl, _⟩ := Prod.mk.inj hx1
  have hl2 := DataW.agg.inj hl
  intro k hk
  have h1 := hel k hk
  have hkx : k < xs.length := by omega
  rw [List.getElem?_eq_getElem hkx, c22, Nat.mul_one] at h1
  obtain ⟨n, e1, e2, _⟩ := DataW.trod_int Tryd.underlying22 h1
  have h3 : (xs.map fun x => x.1)[k]? = some (.lit (.int .u32 n)) := by rw [List.getElem?_map, List.getElem?_eq_getElem hkx, e2]; rfl
  rw [← hl2] at h3
  have h4 : some (DataW.lit (H := Unit) (.int .u32 n)) = some (.lit (.int .u32 (crcT.getD k 0 : Nat))) := by
    rw [← h3]
    match k, hk with
    | 0, _ | 1, _ | 2, _ | 3, _ | 4, _ | 5, _ | 6, _ | 7, _ | 8, _ | 9, _ | 10, _ | 11, _ | 12, _ | 13, _ | 14, _ | 15, _ => rfl
  have h5 : n = (crcT.getD k 0 : Nat) := by
    have := Option.some.inj h4
    simpa using this
  have h6 := World.var?_cell hg0 hv0 k
  have h7 : cs0[k]? = some (.int .u32 n) := by
    have h8 := congrArg (fun l => l[0]?) e1
    simp only [List.getElem?_take, List.getElem?_drop, Nat.add_zero] at h8
    simpa using h8
  rw [h6, h7, h5]
end Go.Proofs.YtkdnlnnmeeeolaaDoor
