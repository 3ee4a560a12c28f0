/- What the listed tables give the walks: operators, the library's errors and its table of tens; and that the program's own start meets them. -/
import Derived.Test.YtlilmidffcmkjaaGreatDoorExpLv
import Derived.Test.YtlilmidffcmkjaaGreatDoorRows
import Derived.Test.YtlilmidffcmkjaaGreatDoorTie
import Derived.Test.YtlilmidffcmkjaaGreatDoorCards
import Derived.ProofKit
import Derived.LaidMore
import Derived.OpenShut
import Derived.ChangeSame
import Derived.Stop.Joined
import Derived.SevenTiedAt
import Derived.Lib.LaidTab
import Derived.Lay
namespace Go.Proofs.YtlilmidffcmkjaaGreatDoor
open Go.ChangeShapes Go.WideShapes Go.ChangeAt Go.WideMaps Go.WideElems Go.RowKit
set_option linter.unusedVariables false
theorem gOps : Tryz.prog.globalNamed "mortise/exp.operators" = some 0 := by kernel_rfl
theorem tOps : (Tryz.prog.globals[0]?).map (·.type) = some 80 := by kernel_rfl
theorem tPow : (Tryz.prog.globals[1]?).map (·.type) = some 111 := by kernel_rfl
theorem gSyn : Tryz.prog.globalNamed "strconv.ErrSyntax" = some 6 := by kernel_rfl
theorem tSyn : (Tryz.prog.globals[6]?).map (·.type) = some 107 := by kernel_rfl
theorem gRng : Tryz.prog.globalNamed "strconv.ErrRange" = some 7 := by kernel_rfl
theorem tRng : (Tryz.prog.globals[7]?).map (·.type) = some 107 := by kernel_rfl
theorem cInt : Tryz.prog.cellsOf 3 = 1 := by kernel_rfl
theorem cStr : Tryz.prog.cellsOf 9 = 1 := by kernel_rfl
theorem cOp : Tryz.prog.cellsOf 67 = 2 := by kernel_rfl
theorem own : ownKnob Tryz.prog.godebug = none := by kernel_rfl
theorem laidOut : laidOutB Tryz.prog = true := by kernel_rfl
theorem laid_met (os : Os) (args : Array Value) : laidMetH Tryz.prog Rows.expReadsRow.laid ((World.laidAll Tryz.prog os Rows.expReadsRow.laid).forCall (fun _ _ => 0) ⟨#[], args, []⟩).memory := by
  rw [MakeChecks.laidMetH_plain _ _ _ (by kernel_rfl)]
  exact laidMet_laidAll _ (by kernel_rfl) (by kernel_rfl)
/-- What a listed interface holds. -/
theorem iface_laid {W : World} {base : Nat} {spare : Nat → Bool} {held : Bool} {H : Type} {enc : TypeId × Value → H} {m : Nat} {t : TypeId} {i} {cs : List Value} {x} (ht : Tryz.prog.underlying t = some (.interface i))
    (h : DataW.trod enc Tryz.prog W base spare held m t cs = some x) : ∃ v, cs = [v] ∧ (v = .nilIface ∨ ∃ te pe, v = .iface te pe) := by
  cases m with
  | zero => simp [DataW.trod] at h
  | succ m =>
    unfold DataW.trod at h
    rw [ht] at h
    match cs, h with
    | [.nilIface], _ => exact ⟨_, rfl, .inl rfl⟩
    | [.iface u v], _ => exact ⟨_, rfl, .inr ⟨_, _, rfl⟩⟩
/-- What the listed operators hold. -/
theorem ops_laid {W : World} {base : Nat} {spare : Nat → Bool} {held : Bool} {H : Type} {enc : TypeId × Value → H} {n m : Nat} {t : TypeId} {cs : List Value} {ns : List (List UInt8 × Nat)} {q : List MemPlace} (ht : Tryz.prog.underlying t = some (.array n 67))
    (h : DataW.trod enc Tryz.prog W base spare held m t cs = some (.agg (ns.map fun x => .agg [.lit (.string x.1), .lit (.int .i64 (x.2 : Nat))]), q)) (hn : ns.length = n) :
    ∀ i (hi : i < ns.length), cs[i * 2]? = some (.string ⟨(ns[i].1).toArray⟩) ∧ cs[i * 2 + 1]? = some (.int .i64 (ns[i].2 : Nat)) := by
  obtain ⟨xs, m1, rfl, hx1, hlen, hn3, hel⟩ := DataW.trod_array ht h
  obtain ⟨hl, _⟩ := Prod.mk.inj hx1
  have hl2 := DataW.agg.inj hl
  intro k hk
  have h1 := hel k (by omega)
  have hkx : k < xs.length := by omega
  rw [List.getElem?_eq_getElem hkx, cOp] at h1
  obtain ⟨y0, y1, m2, e1, e2, e3, e4⟩ := trod_struct2 Tryz.underlying67 h1
  simp only [cInt, cStr] at e3 e4
  obtain ⟨z0, f1, f2, _⟩ := DataW.trod_string Tryz.underlying9 e3
  obtain ⟨z1, g1, g2, _⟩ := DataW.trod_int Tryz.underlying3 e4
  have h3 : (xs.map fun x => x.1)[k]? = some (.agg [.lit (.string z0.data.toList), .lit (.int .i64 z1)]) := by
    rw [List.getElem?_map, List.getElem?_eq_getElem hkx, e1, f2, g2]; rfl
  rw [← hl2, List.getElem?_map, List.getElem?_eq_getElem hk] at h3
  have h5 : ns[k].1 = z0.data.toList ∧ (ns[k].2 : Int) = z1 := by
    have := Option.some.inj h3
    simpa using this
  have h8 := congrArg (fun l => l[0]?) f1
  have h9 := congrArg (fun l => l[0]?) g1
  simp only [List.getElem?_take, List.getElem?_drop, Nat.add_zero] at h8 h9
  have h6 : (⟨(ns[k].1).toArray⟩ : ByteArray) = z0 := ba_eq (by show ns[k].1 = _; exact h5.1)
  rw [h6, h5.2]
  exact ⟨by simpa using h8, by simpa using h9⟩
def sgV (j : Nat) : Value := if j % 2 = 0 then .string (sgS (j / 2)) else .int .i64 (sgL (j / 2) : Nat)
theorem sgn_vals : sgnR = (List.range 24).map sgV := by kernel_rfl
theorem env_of {W : World} (h : laidMetH Tryz.prog Rows.expReadsRow.laid W) : EnvAt W := by
  rw [MakeChecks.laidMetH_plain _ _ _ (by kernel_rfl)] at h
  obtain ⟨ps, ⟨g0, t0, cs0, f0, p0, q0, hg0, ht0, hv0, hd0, x0, _⟩, _, _⟩ := h
  obtain ⟨g1, t1, cs1, f1, p1, q1, hg1, ht1, hv1, hd1, x1, _⟩ := x0
  obtain ⟨g2, t2, cs2, f2, p2, q2, hg2, ht2, hv2, hd2, x2, _⟩ := x1
  obtain ⟨g3, t3, cs3, f3, p3, q3, hg3, ht3, hv3, hd3, x3, _⟩ := x2
  obtain ⟨g4, t4, cs4, f4, p4, q4, hg4, ht4, hv4, hd4, x4, _⟩ := x3
  obtain ⟨g5, t5, cs5, f5, p5, q5, hg5, ht5, hv5, hd5, x5, _⟩ := x4
  obtain ⟨g6, t6, cs6, f6, p6, q6, hg6, ht6, hv6, hd6, x6, _⟩ := x5
  clear x6 hd0 hd1 hd3 hv0 hv1 hv3
  obtain rfl := Option.some.inj (gPow.symm.trans hg2)
  obtain rfl := Option.some.inj (tPow.symm.trans ht2)
  obtain rfl := Option.some.inj (gRng.symm.trans hg4)
  obtain rfl := Option.some.inj (tRng.symm.trans ht4)
  obtain rfl := Option.some.inj (gSyn.symm.trans hg5)
  obtain rfl := Option.some.inj (tSyn.symm.trans ht5)
  obtain rfl := Option.some.inj (gOps.symm.trans hg6)
  obtain rfl := Option.some.inj (tOps.symm.trans ht6)
  have r2 := Lib.cells_of_tab (k := .u64) (zs := Lib.pow10Tab) Tryz.underlying111 Tryz.underlying40 (by kernel_rfl) (by kernel_rfl) hd2
  obtain ⟨v4, e4, k4⟩ := iface_laid Tryz.underlying107 hd4
  obtain ⟨v5, e5, k5⟩ := iface_laid Tryz.underlying107 hd5
  have r6 := ops_laid (ns := sgnT) (n := 12) Tryz.underlying80 hd6 rfl
  have c4 : W.cell? ⟨7, 0, none⟩ = some v4 := by rw [World.var?_cell hg4 hv4 0, ← Array.getElem?_toList, e4]; rfl
  have c5 : W.cell? ⟨6, 0, none⟩ = some v5 := by rw [World.var?_cell hg5 hv5 0, ← Array.getElem?_toList, e5]; rfl
  have c6 : ∀ j, j < 24 → W.cell? ⟨0, j, none⟩ = some (sgV j) := fun j hj => by
    rw [World.var?_cell hg6 hv6 j]
    have h := r6 (j / 2) (by show j / 2 < 12; omega)
    unfold sgV sgS sgL
    rw [List.getD_eq_getElem?_getD, List.getElem?_eq_getElem (show j / 2 < sgnT.length by show j / 2 < 12; omega)]
    by_cases h2 : j % 2 = 0
    · rw [if_pos h2]
      have := h.1
      rw [show j / 2 * 2 = j by omega] at this
      simpa using this
    · rw [if_neg h2]
      have := h.2
      rw [show j / 2 * 2 + 1 = j by omega] at this
      simpa using this
  refine ⟨⟨cell_lt (c6 0 (by omega)), fun i v hv => ?_⟩, ⟨v5, v4, c5, k5, c4, k4⟩, ?_⟩
  · rw [sgn_vals] at hv
    have hi : i < 24 := by
      rcases Nat.lt_or_ge i 24 with c | c
      · exact c
      · rw [List.getElem?_eq_none (by simpa using c)] at hv; cases hv
    rw [List.getElem?_map, List.getElem?_range hi] at hv
    injection hv with hv
    rw [← hv, Nat.zero_add]
    exact c6 i hi
  · unfold PowAt Lib.TabIs
    rw [hv2, ← r2]
theorem str_le {s : ByteArray} (h : s.data.toList.length ≤ reachBytes) : s.size ≤ 140737488351232 := by
  have h4 : s.size = s.data.toList.length := by simp
  have h5 : reachBytes = 140737488351232 := by decide
  omega
end Go.Proofs.YtlilmidffcmkjaaGreatDoor
