/- The map of counts: how often fmt and data came. -/
import Derived.Test.YtgkgimfdbkpbdaaDoorWavU
import Derived.Test.YtgkgimfdbkpbdaaDoorWavV
import Derived.Test.YtgkgimfdbkpbdaaDoorWavO
import Derived.Maps.Own
import Derived.Maps.Views
namespace Go.Proofs.YtgkgimfdbkpbdaaDoor
open Go.RowKit Go.Maps
set_option linter.unusedVariables false
set_option linter.unusedSimpArgs false
set_option maxRecDepth 100000
theorem strKeyed : Keyed Tryd.prog 9 := string_keyed Tryd.underlying9
def fmtL : Lit := .string [102, 109, 116, 32]
def datL : Lit := .string [100, 97, 116, 97]
theorem key_fmt : keyOf Tryd.prog 9 (.string ⟨#[102, 109, 116, 32]⟩) = some fmtL := by kernel_rfl
theorem key_dat : keyOf Tryd.prog 9 (.string ⟨#[100, 97, 116, 97]⟩) = some datL := by kernel_rfl
theorem zero_int (w : World) : (zeroValue 3).run Tryd.prog w = .ok (.int .i64 0) w := by kernel_rfl
theorem cnt_elem (n : Nat) (hn : n ≤ 1000000) : plainElem (H := Unit) Tryd.prog 3 (.int .i64 n) = some (.lit (.int .i64 n), []) := by
  unfold plainElem
  rw [Tryd.underlying3]
  have : (Lit.int .i64 (n : Int)).wf = true := by
    simp [Lit.wf, IntKind.min, IntKind.max, IntKind.bits, IntKind.signed]; omega
  simp [this]
/-- The map counts fmt and data. -/
def CntAt (w : World) (b n cf cd : Nat) : Prop :=
  ∃ D : DataW Unit, w.ownsMap Tryd.prog 9 (plainElem Tryd.prog 3) b n D ∧ IsMap D ∧ D.atKey fmtL (.lit (.int .i64 0)) = .lit (.int .i64 (cf : Nat)) ∧ D.atKey datL (.lit (.int .i64 0)) = .lit (.int .i64 (cd : Nat))
theorem CntAt.made (w : World) : CntAt (w.alloc (.map #[] 0)) w.heap.size 0 0 0 := ⟨.map [], World.ownsMap_made w _ _ _, ⟨[], rfl⟩, rfl, rfl⟩
theorem CntAt.lt {w : World} {b n cf cd : Nat} (h : CntAt w b n cf cd) : b < w.heap.size := by
  obtain ⟨D, h1, _⟩ := h
  exact h1.lt
theorem CntAt.kept {w w' : World} {b n cf cd : Nat} (h : CntAt w b n cf cd) (hb : w'.heap[b]? = w.heap[b]?) : CntAt w' b n cf cd := by
  obtain ⟨D, ⟨es, c, h1, h2⟩, h3⟩ := h
  exact ⟨D, ⟨es, c, hb.trans h1, h2⟩, h3⟩
theorem CntAt.bw {w w' : World} {b n cf cd : Nat} (h : CntAt w b n cf cd) (hb : Bw w w') : CntAt w' b n cf cd := h.kept (hb.block b h.lt)
theorem CntAt.mono {w : World} {b n m cf cd : Nat} (h : CntAt w b n cf cd) (hn : n ≤ m) : CntAt w b m cf cd := by
  obtain ⟨D, h1, h3⟩ := h
  exact ⟨D, h1.mono hn, h3⟩
theorem CntAt.lookF {w : World} {b n cf cd : Nat} (h : CntAt w b n cf cd) : (Instr.lookup 87 (.map (some b)) (.string ⟨#[102, 109, 116, 32]⟩) false).run Tryd.prog w = .ok (.int .i64 cf) w := by
  obtain ⟨D, h1, _, h2, _⟩ := h
  obtain ⟨c, hr, hc, _⟩ := h1.lookup_int strKeyed Tryd.underlying87 Tryd.underlying3 (zero_int w) key_fmt
  rw [h2] at hc
  injection hc with hc
  injection hc with _ hc
  rw [hr, hc]
theorem CntAt.lookD {w : World} {b n cf cd : Nat} (h : CntAt w b n cf cd) : (Instr.lookup 87 (.map (some b)) (.string ⟨#[100, 97, 116, 97]⟩) false).run Tryd.prog w = .ok (.int .i64 cd) w := by
  obtain ⟨D, h1, _, _, h2⟩ := h
  obtain ⟨c, hr, hc, _⟩ := h1.lookup_int strKeyed Tryd.underlying87 Tryd.underlying3 (zero_int w) key_dat
  rw [h2] at hc
  injection hc with hc
  injection hc with _ hc
  rw [hr, hc]
theorem fmt_ne_dat : fmtL ≠ datL := by unfold fmtL datL; intro h; injection h with h; exact absurd h (by decide)
theorem CntAt.addF {w : World} {b n cf cd : Nat} (h : CntAt w b n cf cd) (hn : n ≤ 1000000) (k : Nat) (hk : k ≤ 1000000) :
    ∃ w', (Instr.mapUpdate 87 (.map (some b)) (.string ⟨#[102, 109, 116, 32]⟩) (.int .i64 k)).run Tryd.prog w = .ok () w' ∧ CntAt w' b (n + 1) k cd ∧ w.grownBy w' (some b) := by
  obtain ⟨D, h1, hm, h2, h3⟩ := h
  obtain ⟨w', hr, h4, h5⟩ := h1.update strKeyed Tryd.underlying87 (by unfold maxLen; omega) key_fmt (cnt_elem k hk)
  refine ⟨w', hr, ⟨_, h4, ?_, ?_, ?_⟩, h5⟩
  · obtain ⟨es, rfl⟩ := hm
    exact ⟨_, rfl⟩
  · exact atKey_put_same hm (show WideAt.IsKeyLit (.string _) from trivial) _ _
  · rw [atKey_put_other fmt_ne_dat.symm]; exact h3
theorem CntAt.addD {w : World} {b n cf cd : Nat} (h : CntAt w b n cf cd) (hn : n ≤ 1000000) (k : Nat) (hk : k ≤ 1000000) :
    ∃ w', (Instr.mapUpdate 87 (.map (some b)) (.string ⟨#[100, 97, 116, 97]⟩) (.int .i64 k)).run Tryd.prog w = .ok () w' ∧ CntAt w' b (n + 1) cf k ∧ w.grownBy w' (some b) := by
  obtain ⟨D, h1, hm, h2, h3⟩ := h
  obtain ⟨w', hr, h4, h5⟩ := h1.update strKeyed Tryd.underlying87 (by unfold maxLen; omega) key_dat (cnt_elem k hk)
  refine ⟨w', hr, ⟨_, h4, ?_, ?_, ?_⟩, h5⟩
  · obtain ⟨es, rfl⟩ := hm
    exact ⟨_, rfl⟩
  · rw [atKey_put_other fmt_ne_dat]; exact h2
  · exact atKey_put_same hm (show WideAt.IsKeyLit (.string _) from trivial) _ _
theorem wpList_mapUpdate_run {P : Program} {w w' : World} {ops : Array Oper} {rest : List Oper} {o : Oper} {a : Act} {Q : Exit → Act → World → Prop}
    (hg : o.guard = none) (m x v : Operand) (t : TypeId) (hop : o.op = Op.mapUpdate t m x v) {M K V : Value} (hm : a.eval m = M) (hx : a.eval x = K) (hv : a.eval v = V) (hrun : (Instr.mapUpdate t M K V).run P w = .ok () w')
    (hK : wpList P ops Q rest (a.put o.dst undef) w') : wpList P ops Q (o :: rest) a w := by
  refine wpList_plain hg fun K' hK' => ?_
  unfold Oper.wp
  simp [execOp, hop, hm, hx, hv, hrun, Result.andThen]
  exact hK' _ _ hK
end Go.Proofs.YtgkgimfdbkpbdaaDoor
