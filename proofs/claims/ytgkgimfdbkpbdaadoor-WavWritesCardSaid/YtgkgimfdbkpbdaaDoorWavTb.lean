/- What the listed table gives the walks: its cells; that the program's own start meets it; a slice or struct that came in. -/
import Derived.Test.YtgkgimfdbkpbdaaDoorWavL
import Derived.Test.YtgkgimfdbkpbdaaDoorRows
import Derived.Test.YtgkgimfdbkpbdaaDoorTie
import Derived.Test.YtgkgimfdbkpbdaaDoorCards
import Derived.ProofKit
import Derived.LaidMore
import Derived.OpenShut
import Derived.ChangeSame
import Derived.Stop.Joined
import Derived.SevenTiedAt
import Derived.Lib.LaidTab
import Derived.Lay
namespace Go.Proofs.YtgkgimfdbkpbdaaDoor
open Go.ChangeShapes Go.WideShapes Go.ChangeAt Go.WideMaps Go.WideElems Go.RowKit
set_option linter.unusedVariables false
theorem gWid : Tryd.prog.globalNamed "mortise/wav.widths" = some 0 := by kernel_rfl
theorem tWid : (Tryd.prog.globals[0]?).map (·.type) = some 86 := by kernel_rfl
theorem cInt : Tryd.prog.cellsOf 3 = 1 := by kernel_rfl
theorem own : ownKnob Tryd.prog.godebug = none := by kernel_rfl
theorem laidOut : laidOutB Tryd.prog = true := by kernel_rfl
theorem laid_met (os : Os) (args : Array Value) : laidMetH Tryd.prog Rows.wavSplitsRow.laid ((World.laidAll Tryd.prog os Rows.wavSplitsRow.laid).forCall (fun _ _ => 0) ⟨#[], args, []⟩).memory := by
  rw [MakeChecks.laidMetH_plain _ _ _ (by kernel_rfl)]
  exact laidMet_laidAll _ (by kernel_rfl) (by kernel_rfl)
/-- What a listed array of ints holds. -/
theorem ints_laid {W : World} {base : Nat} {spare : Nat → Bool} {held : Bool} {H : Type} {enc : TypeId × Value → H} {n m : Nat} {t : TypeId} {cs : List Value} {ns : List Int} {q : List MemPlace} (ht : Tryd.prog.underlying t = some (.array n 3))
    (h : DataW.trod enc Tryd.prog W base spare held m t cs = some (.agg (ns.map fun x => .lit (.int .i64 x)), q)) (hn : ns.length = n) : ∀ i (hi : i < ns.length), cs[i]? = some (.int .i64 ns[i]) := by
  obtain ⟨xs, m1, rfl, hx1, hlen, hn3, hel⟩ := DataW.trod_array ht h
  obtain ⟨hl, _⟩ := Prod.mk.inj hx1
  have hl2 := DataW.agg.inj hl
  intro k hk
  have h1 := hel k (by omega)
  have hkx : k < xs.length := by omega
  rw [List.getElem?_eq_getElem hkx, cInt, Nat.mul_one] at h1
  obtain ⟨z, e1, e2, _⟩ := DataW.trod_int Tryd.underlying3 h1
  have h3 : (xs.map fun x => x.1)[k]? = some (.lit (.int .i64 z)) := by rw [List.getElem?_map, List.getElem?_eq_getElem hkx, e2]; rfl
  rw [← hl2, List.getElem?_map, List.getElem?_eq_getElem hk] at h3
  have h5 : ns[k] = z := by
    have := Option.some.inj h3
    simpa using this
  have h8 := congrArg (fun l => l[0]?) e1
  simp only [List.getElem?_take, List.getElem?_drop, Nat.add_zero] at h8
  rw [h5]
  simpa using h8
theorem wid_of {W : World} (h : laidMetH Tryd.prog Rows.wavSplitsRow.laid W) : WidAt W := by
  rw [MakeChecks.laidMetH_plain _ _ _ (by kernel_rfl)] at h
  obtain ⟨ps, ⟨g2, t2, cs2, f2, p2, q2, hg2, ht2, hv2, hd2, x2, _⟩, _, _⟩ := h
  obtain rfl := Option.some.inj (gWid.symm.trans hg2)
  obtain rfl := Option.some.inj (tWid.symm.trans ht2)
  have r2 := ints_laid (ns := wdL) (n := 6) Tryd.underlying86 hd2 rfl
  have c2 : ∀ i, i < 6 → W.cell? ⟨0, i, none⟩ = some (.int .i64 (wdL.getD i 0)) := fun i hi => by
    rw [World.var?_cell hg2 hv2 i]
    have h := r2 i hi
    rw [List.getD_eq_getElem?_getD, List.getElem?_eq_getElem (show i < wdL.length from hi)]
    rw [Array.getElem?_toList] at h
    exact h
  refine ⟨?_, c2⟩
  rcases Nat.lt_or_ge 0 W.heap.size with h | hge
  · exact h
  · have := c2 0 (by omega)
    simp [World.cell?, Array.getElem?_eq_none hge] at this
theorem str_le {s : ByteArray} (h : s.data.toList.length ≤ reachBytes) : s.size ≤ 140737488351232 := by
  have h4 : s.size = s.data.toList.length := by simp
  have h5 : reachBytes = 140737488351232 := by decide
  omega
section
variable {H : Type} {enc : TypeId × Value → H} {w : World} {base : Nat} {spare : Nat → Bool} {held : Bool}
theorem nil_cap {n : Nat} {u : Value} {y : DataW H × List MemPlace} {A : Option Addr} {len cap : Nat} (h : DataW.trod enc Tryd.prog w base spare held n 23 [u] = some y) (he : u = .slice A len cap) : A = none → cap = 0 := by
  intro hA
  subst hA
  rcases Go.Deep.open_slice Tryd.underlying23 h with ⟨hcs, _⟩ | ⟨a, len', cap', mm, nn, D, Pl, hcs, _⟩
  · simp only [List.cons.injEq, and_true] at hcs
    rw [hcs] at he
    injection he with _ _ h3
    exact h3.symm
  · simp only [List.cons.injEq, and_true] at hcs
    rw [hcs] at he
    injection he with h1
    cases h1
end
theorem chk_none {w : World} {A : Option Addr} {l : List ChkR} {len cap : Nat} (h : ChkAt w A l) (hl : l.length = len) (hc : A = none → cap = 0) : A = none → len = 0 ∧ cap = 0 := fun hA => by
  refine ⟨?_, hc hA⟩
  rcases Nat.eq_zero_or_pos len with h0 | h0
  · exact h0
  · obtain ⟨b, off, e, _⟩ := h 0 (by omega)
    rw [hA] at e
    cases e
theorem few_small {l : List ChkR} (h : smallB l = true) : Few l := ⟨by have := (small_all h).1; omega, fun c hc => by have := (small_all h).2 c hc; omega⟩
theorem nil_own (w : World) (B : Nat) : w.ownsRow B 42 2 (.slice none 0 0) ([] : List ChkR).length (chkCells []) := ⟨rfl, .inl ⟨rfl, rfl⟩⟩
end Go.Proofs.YtgkgimfdbkpbdaaDoor
