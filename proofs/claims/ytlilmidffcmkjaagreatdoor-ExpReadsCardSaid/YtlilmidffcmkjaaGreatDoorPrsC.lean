/- The parser in memory. -/
import Derived.Test.YtlilmidffcmkjaaGreatDoorPrsX
import Derived.Test.YtlilmidffcmkjaaGreatDoorExpG
import Derived.Test.YtlilmidffcmkjaaGreatDoorExpK
import Derived.Test.YtlilmidffcmkjaaGreatDoorKitE
namespace Go.Proofs.YtlilmidffcmkjaaGreatDoor
open Go.RowKit
set_option linter.unusedVariables false
set_option linter.unusedSimpArgs false
abbrev pan (e : Int) : Ending := .panicked [{ v := .iface 23 (.int .i64 e), recovered := false }]
/-- The blocks that parsing may change: the parser, and rows of expressions. -/
def TP : List TypeId := [31, 42]
/-- The parser: what is left is the text from k on; so many brackets are open; the list so far. -/
structure PrsS (w0 w : World) (g : Nat) (s : ByteArray) (k deep : Nat) (l : List ExpR) (v : Value) : Prop where
  pr : Has w g 31 #[.string (dropS s k), .int .i64 deep, v]
  row : w.ownsRow w0.heap.size 42 5 v l.length (expCells l)
  bw : Bw w0 w
  gp : w0.heap.size ≤ g
  ks : k ≤ s.size
  ok : ∀ o ∈ l, o.Ok
  few : l.length ≤ 400
  dp : deep ≤ 20
section
variable {w0 w w' : World} {g : Nat} {s : ByteArray} {k deep : Nat} {l : List ExpR} {v : Value}
theorem PrsS.later (h : PrsS w0 w g s k deep l v) (hb : Bw w w') : PrsS w0 w' g s k deep l v :=
  ⟨hb.has h.pr, Bw.own hb h.row, h.bw.trans hb, h.gp, h.ks, h.ok, h.few, h.dp⟩
theorem PrsS.ne (h : PrsS w0 w g s k deep l v) {b : Nat} (hb : v.ownBlock = some b) : g ≠ b := fun e => by
  obtain ⟨cur, hc⟩ := own_at h.row hb
  have hp := h.pr
  unfold Has at hp
  rw [e, hc] at hp
  injection hp with hp
  injection hp with _ hp
  exact absurd hp (by decide)
theorem PrsS.row_set (h : PrsS w0 w g s k deep l v) (i : Nat) (u : Value) : (w.setCell ⟨g, i, none⟩ u).ownsRow w0.heap.size 42 5 v l.length (expCells l) :=
  own_keep h.row fun b hb => Below.heap_setCell w ⟨g, i, none⟩ u b (fun e => h.ne hb e.symm)
theorem PrsS.kt_set (h : PrsS w0 w g s k deep l v) (i : Nat) (u : Value) : KT TP w0.heap.size w (w.setCell ⟨g, i, none⟩ u) :=
  (KT.refl w).setCell (p := ⟨g, i, none⟩) h.gp (h.pr.hot (by decide)) u
theorem PrsS.bw_set (h : PrsS w0 w g s k deep l v) (i : Nat) (u : Value) : Bw w0 (w.setCell ⟨g, i, none⟩ u) :=
  Below.trans h.bw ((h.kt_set i u).below (Nat.le_refl _) h.bw.size)
/-- What is left is stored. -/
theorem PrsS.rest (h : PrsS w0 w g s k deep l v) {k' : Nat} (hk : k' ≤ s.size) {r : ByteArray} (hr : r = dropS s k') : PrsS w0 (w.setCell ⟨g, 0, none⟩ (.string r)) g s k' deep l v := by
  subst hr
  exact ⟨h.pr.put 0 _, h.row_set _ _, h.bw_set _ _, h.gp, hk, h.ok, h.few, h.dp⟩
/-- How many brackets are open is stored. -/
theorem PrsS.open_ (h : PrsS w0 w g s k deep l v) {d : Nat} (hd : d ≤ 20) {x : Int} (hx : x = d) : PrsS w0 (w.setCell ⟨g, 1, none⟩ (.int .i64 x)) g s k d l v := by
  subst hx
  exact ⟨h.pr.put 1 _, h.row_set _ _, h.bw_set _ _, h.gp, h.ks, h.ok, h.few, hd⟩
theorem PrsS.mid (h : PrsS w0 w g s k deep l v) (hg : w.grownBy w' v.ownBlock) : Has w' g 31 #[.string (dropS s k), .int .i64 deep, v] :=
  (hg.block g h.pr.lt (fun e => h.ne e.symm rfl)).trans h.pr
/-- The list grew, and the parser holds it. -/
theorem PrsS.app (h : PrsS w0 w g s k deep l v) (hf : l.length < 400) {x : ExpR} (hx : x.Ok) {v' : Value} (ho : w'.ownsRow 0 42 5 v' (l.length + 1) (expCells l ++ expCell x)) (hg : w.grownBy w' v.ownBlock) (hn : v'.ownBlock = v.ownBlock ∨ ∀ b, v'.ownBlock = some b → w.heap.size ≤ b) :
    PrsS w0 (w'.setCell ⟨g, 2, none⟩ v') g s k deep (l ++ [x]) v' ∧ KT TP w0.heap.size w (w'.setCell ⟨g, 2, none⟩ v') := by
  have hk : KT TP w0.heap.size w w' := KT.of_grown h.row (Nat.le_refl _) hg (by decide)
  have hp1 := h.mid hg
  have hb0 : ∀ b, v'.ownBlock = some b → w0.heap.size ≤ b := fun b hb => by
    rcases hn with hn | hn
    · exact own_ge h.row (hn ▸ hb)
    · exact Nat.le_trans h.bw.size (hn b hb)
  have hne : ∀ b, v'.ownBlock = some b → g ≠ b := fun b hb e => by
    obtain ⟨cur, hc⟩ := own_at ho hb
    have hp := hp1
    unfold Has at hp
    rw [e, hc] at hp
    injection hp with hp
    injection hp with _ hp
    exact absurd hp (by decide)
  have hk2 := hk.setCell (p := ⟨g, 2, none⟩) h.gp (hp1.hot (by decide)) v'
  have hB : Bw w0 (w'.setCell ⟨g, 2, none⟩ v') := Below.trans h.bw (hk2.below (Nat.le_refl _) h.bw.size)
  have e1 : (l ++ [x]).length = l.length + 1 := by simp
  refine ⟨⟨hp1.put 2 v', ?_, hB, h.gp, h.ks, ?_, by omega, h.dp⟩, hk2⟩
  · rw [e1, expCells_snoc]
    exact own_lift (own_keep ho fun b hb => Below.heap_setCell w' ⟨g, 2, none⟩ v' b (fun e => hne b hb e.symm)) hb0
  · intro o hm
    rcases List.mem_append.1 hm with hm | hm
    · exact h.ok o hm
    · obtain rfl : o = x := by simpa using hm
      exact hx
end
/-- What a call that parses, or panics, leaves. -/
def PrsP (w0 w : World) (g : Nat) (s : ByteArray) (deep : Nat) (r : PR) (e : Ending) (w' : World) : Prop :=
  KT TP w0.heap.size w w' ∧ match r with
    | some (i, k2, l2) => e = .returned (.int .i64 (i : Nat)) ∧ i < l2.length ∧ ∃ v', PrsS w0 w' g s k2 deep l2 v'
    | none => e = pan 8
end Go.Proofs.YtlilmidffcmkjaaGreatDoor
