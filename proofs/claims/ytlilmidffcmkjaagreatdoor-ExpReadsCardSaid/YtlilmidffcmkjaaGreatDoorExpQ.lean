/- The printer in memory; whether its text is full (contract of the method). -/
import Derived.Test.YtlilmidffcmkjaaGreatDoorExpI
import Derived.Test.YtlilmidffcmkjaaGreatDoorPlnE
import Derived.Test.YtlilmidffcmkjaaGreatDoorKitE
namespace Go.Proofs.YtlilmidffcmkjaaGreatDoor
open Go.RowKit
set_option linter.unusedVariables false
set_option linter.unusedSimpArgs false
/-- The blocks that printing may change: the printer, and rows of bytes. -/
def TX : List TypeId := [64, 5]
/-- The printer, whose text so far is s: v holds it. -/
structure PrS (w0 w : World) (p : Nat) (a : Option Addr) (len cap : Nat) (v : Value) (s : List UInt8) : Prop where
  pr : Has w p 64 #[.slice a len cap, v]
  row : w.ownsRow w0.heap.size 5 1 v s.length (bcs s)
  bw : Bw w0 w
  gp : w0.heap.size ≤ p
section
variable {w0 w w' : World} {p : Nat} {a : Option Addr} {len cap : Nat} {v : Value} {s : List UInt8}
theorem PrS.later (h : PrS w0 w p a len cap v s) (hb : Bw w w') : PrS w0 w' p a len cap v s :=
  ⟨hb.has h.pr, Bw.own hb h.row, h.bw.trans hb, h.gp⟩
theorem PrS.ne (h : PrS w0 w p a len cap v s) {b : Nat} (hb : v.ownBlock = some b) : p ≠ b := fun e => by
  obtain ⟨cur, hc⟩ := own_at h.row hb
  have hp := h.pr
  unfold Has at hp
  rw [e, hc] at hp
  injection hp with hp
  injection hp with _ hp
  exact absurd hp (by decide)
/-- The text grew, and the printer holds it. -/
theorem PrS.app (h : PrS w0 w p a len cap v s) {w1 : World} {v' : Value} {t : List UInt8} (ho : w1.ownsRow 0 5 1 v' (s ++ t).length (bcs (s ++ t))) (hg : w.grownBy w1 v.ownBlock) (hn : v'.ownBlock = v.ownBlock ∨ ∀ b, v'.ownBlock = some b → w.heap.size ≤ b) :
    PrS w0 (w1.setCell ⟨p, 1, none⟩ v') p a len cap v' (s ++ t) ∧ KT TX w0.heap.size w (w1.setCell ⟨p, 1, none⟩ v') := by
  have hk : KT TX w0.heap.size w w1 := KT.of_grown h.row (Nat.le_refl _) hg (by decide)
  have hp1 : Has w1 p 64 #[.slice a len cap, v] := (hg.block p h.pr.lt (fun e => h.ne e.symm rfl)).trans h.pr
  have hb0 : ∀ b, v'.ownBlock = some b → w0.heap.size ≤ b := fun b hb => by
    rcases hn with hn | hn
    · exact own_ge h.row (hn ▸ hb)
    · exact Nat.le_trans h.bw.size (hn b hb)
  have hne : ∀ b, v'.ownBlock = some b → p ≠ b := fun b hb e => by
    obtain ⟨cur, hc⟩ := own_at ho hb
    have hp := hp1
    unfold Has at hp
    rw [e, hc] at hp
    injection hp with hp
    injection hp with _ hp
    exact absurd hp (by decide)
  have hk2 := hk.setCell (p := ⟨p, 1, none⟩) h.gp (hp1.hot (by decide)) v'
  have hB : Bw w0 (w1.setCell ⟨p, 1, none⟩ v') := Below.trans h.bw (hk2.below (Nat.le_refl _) h.bw.size)
  exact ⟨⟨hp1.put 1 v', own_lift (own_keep ho fun b hb => Below.heap_setCell w1 ⟨p, 1, none⟩ v' b (fun e => hne b hb e.symm)) hb0, hB, h.gp⟩, hk2⟩
end
end Go.Proofs.YtlilmidffcmkjaaGreatDoor
