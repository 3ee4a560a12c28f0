/- A set that a call owns (for spans without values). -/
import Derived.Test.YtciaebhkemdilabRvS
import Derived.Test.YtciaebhkemdilabRvP
import Derived.Test.YtciaebhkemdilabKitC
import Derived.Deep.RegionHeld3
import Derived.Deep.RegionLaw
import Derived.Deep.DeepCutAuto
namespace Go.Proofs.Ytciaebhkemdilab
open Go.RowKit Go.Conc Go.Lib
set_option linter.unusedVariables false
set_option linter.unusedSimpArgs false
/-- A set in memory, all of whose blocks are P's. -/
def SetP (P : Nat → Prop) (w : World) (g : Nat) (L : List PartR) : Prop :=
  ∃ bv, Has w g 103 #[bv] ∧ P g ∧
    ((bv = .slice none 0 0 ∧ L = []) ∨
     ∃ ob oc ib n cap, bv = .slice (some ⟨ob, 0, none⟩) 1 oc ∧ P ob ∧ P ib ∧ w.ownsRow 0 117 1 bv 1 [.slice (some ⟨ib, 0, none⟩) n cap] ∧ n = L.length ∧ 0 < n ∧ w.ownsRow 0 111 2 (.slice (some ⟨ib, 0, none⟩) n cap) n (partCells L))
theorem own_cell0 {w : World} {t : TypeId} {ob n oc : Nat} {v : Value} (h : w.ownsRow 0 t 1 (.slice (some ⟨ob, 0, none⟩) n oc) 1 [v]) : w.cell? ⟨ob, 0, none⟩ = some v := by
  have := h.cells (g := ob) rfl 0 v rfl
  rwa [addr_add] at this
theorem own_frozen {w : World} {t : TypeId} {B ob n oc m size i : Nat} {xs : List Value} (h : w.ownsRow B t size (.slice (some ⟨ob, 0, none⟩) n oc) m xs) : w.frozen? ⟨ob, i, none⟩ = false := by
  obtain ⟨cur, hg, _⟩ := own_row h
  simp [World.frozen?, hg]
theorem own_set0 {w : World} {t : TypeId} {ob oc : Nat} {v : Value} (h : w.ownsRow 0 t 1 (.slice (some ⟨ob, 0, none⟩) 1 oc) 1 [v]) (v' : Value) : (w.setCell ⟨ob, 0, none⟩ v').ownsRow 0 t 1 (.slice (some ⟨ob, 0, none⟩) 1 oc) 1 [v'] := by
  obtain ⟨cur, hg, _, h1, h2, h3, h4⟩ := own_row h
  refine ⟨rfl, .inr ⟨ob, oc, cur.setIfInBounds 0 v', rfl, Nat.zero_le _, ?_, h1, h2, by simpa using h3, ?_⟩⟩
  · simp [World.setCell, Array.getElem?_modify, hg]
  · have h5 : 0 < cur.size := by omega
    obtain ⟨l, rfl⟩ : ∃ l, cur = List.toArray l := ⟨cur.toList, by simp⟩
    cases l with
    | nil => simp at h5
    | cons a l => simp
theorem SetP.at {P : Nat → Prop} {w : World} {g : Nat} {L : List PartR} (h : SetP P w g L) : SetAt w g L := by
  obtain ⟨bv, h1, _, h2⟩ := h
  refine ⟨bv, h1.cell 0, ?_⟩
  rcases h2 with h2 | ⟨ob, oc, ib, n, cap, rfl, _, _, h3, h4, h5, h6⟩
  · exact .inl h2
  · obtain ⟨cur, hg, _, h7, h8, _, _⟩ := own_row h3
    exact .inr ⟨ob, oc, ib, n, cap, rfl, h7, h8, (Array.getElem?_eq_some_iff.1 hg).1, own_cell0 h3, h4, h5, h6⟩
theorem SetP.mono {P Q : Nat → Prop} {w : World} {g : Nat} {L : List PartR} (h : SetP P w g L) (hq : ∀ i, i < w.heap.size → P i → Q i) : SetP Q w g L := by
  obtain ⟨bv, h1, hp, h2⟩ := h
  refine ⟨bv, h1, hq _ h1.lt hp, ?_⟩
  rcases h2 with h2 | ⟨ob, oc, ib, n, cap, rfl, p1, p2, h3, h4, h5, h6⟩
  · exact .inl h2
  · exact .inr ⟨ob, oc, ib, n, cap, rfl, hq _ (own_lt h3 rfl) p1, hq _ (own_lt h6 rfl) p2, h3, h4, h5, h6⟩
theorem SetP.keep {P F : Nat → Prop} {w w' : World} {g : Nat} {L : List PartR} (h : SetP P w g L) (hk : Keeps F w w') (hF : ∀ i, P i → ¬ F i) : SetP P w' g L := by
  obtain ⟨bv, h1, hp, h2⟩ := h
  refine ⟨bv, hk.has h1 (hF _ hp), hp, ?_⟩
  rcases h2 with h2 | ⟨ob, oc, ib, n, cap, rfl, p1, p2, h3, h4, h5, h6⟩
  · exact .inl h2
  · exact .inr ⟨ob, oc, ib, n, cap, rfl, p1, p2, own_keep h3 fun b hb => hk.block b (own_lt h3 hb) (by have : some ob = some b := hb; injection this with e; subst e; exact hF _ p1), h4, h5, own_keep h6 fun b hb => hk.block b (own_lt h6 hb) (by have : some ib = some b := hb; injection this with e; subst e; exact hF _ p2)⟩
theorem SetP.bw {P : Nat → Prop} {w w' : World} {g : Nat} {L : List PartR} (h : SetP P w g L) (hb : Bw w w') : SetP P w' g L := h.keep (Keeps.of_bw (F := fun _ => False) hb) fun _ _ h => h
/-- What P's blocks are when new ones may have come. -/
def orNew (P : Nat → Prop) (w : World) : Nat → Prop := fun i => P i ∨ w.heap.size ≤ i
def Put (P : Nat → Prop) (w : World) (g : Nat) (L : List PartR) (w' : World) : Prop := SetP (orNew P w) w' g L ∧ Keeps P w w'
theorem putIn_empty (p : PartR) : putIn [] p = [p] := rfl
/-- What insert's great statement leaves: the inner row with one part more, its slice stored. -/
def Laid (P : Nat → Prop) (w w3 : World) (g ob oc ib n : Nat) (L : List PartR) (wx : World) : Prop :=
  ∃ b cap, Has wx g 103 #[.slice (some ⟨ob, 0, none⟩) 1 oc] ∧ wx.ownsRow 0 117 1 (.slice (some ⟨ob, 0, none⟩) 1 oc) 1 [.slice (some ⟨b, 0, none⟩) (n + 1) cap] ∧ (b = ib ∨ w3.heap.size ≤ b) ∧ wx.ownsRow 0 111 2 (.slice (some ⟨b, 0, none⟩) (n + 1) cap) (n + 1) (partCells L) ∧ Keeps P w wx
theorem keeps_grownF {F : Nat → Prop} {w w' : World} {row : Option Nat} (h : w.grownBy w' row) (hr : ∀ r, row = some r → F r) : Keeps F w w' := ⟨h.os, h.tape, h.output, h.size, fun i hi hn => h.block i hi fun e => hn (hr i e.symm)⟩
end Go.Proofs.Ytciaebhkemdilab
