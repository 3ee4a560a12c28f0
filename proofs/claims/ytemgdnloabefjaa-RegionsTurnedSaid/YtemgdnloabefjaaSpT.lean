/- A set that a call owns (for spans whose values are spans). -/
import Derived.Test.YtemgdnloabefjaaSpS
import Derived.Test.YtemgdnloabefjaaRegT
namespace Go.Proofs.Ytemgdnloabefjaa.Sp
open Go.RowKit Go.Conc Go.Lib
set_option linter.unusedVariables false
/-- A set in memory, all of whose blocks are P's. -/
def SetP (P : Nat → Prop) (w : World) (g : Nat) (L : List PartR) : Prop :=
  ∃ bv, Has w g 94 #[bv] ∧ P g ∧
    ((bv = .slice none 0 0 ∧ L = []) ∨
     ∃ ob oc ib n cap, bv = .slice (some ⟨ob, 0, none⟩) 1 oc ∧ P ob ∧ P ib ∧ w.ownsRow 0 99 1 bv 1 [.slice (some ⟨ib, 0, none⟩) n cap] ∧ n = L.length ∧ 0 < n ∧ w.ownsRow 0 97 4 (.slice (some ⟨ib, 0, none⟩) n cap) n (partCells L))
theorem SetP.at {P : Nat → Prop} {w : World} {g : Nat} {L : List PartR} (h : SetP P w g L) : SetAt w g L := by
  obtain ⟨bv, h1, _, h2⟩ := h
  refine ⟨bv, h1.cell 0, ?_⟩
  rcases h2 with h2 | ⟨ob, oc, ib, n, cap, rfl, _, _, h3, h4, h5, h6⟩
  · exact .inl h2
  · obtain ⟨cur, hg, _, h7, h8, _, _⟩ := own_row h3
    exact .inr ⟨ob, oc, ib, n, cap, rfl, h7, h8, (Array.getElem?_eq_some_iff.1 hg).1, own_cell0 h3, h4, h5, h6⟩
theorem SetP.mono {P Q : Nat → Prop} {w : World} {g : Nat} {L : List PartR} (h : SetP P w g L) (hq : ∀ i, i < w.heap.size → P i → Q i) : SetP Q w g L := by
  obtain ⟨bv, h1, hp, h2⟩ := h
  refine ⟨bv, h1, hq _ h1.lt hp, ?_⟩
  rcases h2 with h2 | ⟨ob, oc, ib, n, cap, rfl, p1, p2, h3, h4, h5, h6⟩
  · exact .inl h2
  · exact .inr ⟨ob, oc, ib, n, cap, rfl, hq _ (own_lt h3 rfl) p1, hq _ (own_lt h6 rfl) p2, h3, h4, h5, h6⟩
theorem SetP.keep {P F : Nat → Prop} {w w' : World} {g : Nat} {L : List PartR} (h : SetP P w g L) (hk : Keeps F w w') (hF : ∀ i, P i → ¬ F i) : SetP P w' g L := by
  obtain ⟨bv, h1, hp, h2⟩ := h
  refine ⟨bv, hk.has h1 (hF _ hp), hp, ?_⟩
  rcases h2 with h2 | ⟨ob, oc, ib, n, cap, rfl, p1, p2, h3, h4, h5, h6⟩
  · exact .inl h2
  · exact .inr ⟨ob, oc, ib, n, cap, rfl, p1, p2, own_keep h3 fun b hb => hk.block b (own_lt h3 hb) (by have : some ob = some b := hb; injection this with e; subst e; exact hF _ p1), h4, h5, own_keep h6 fun b hb => hk.block b (own_lt h6 hb) (by have : some ib = some b := hb; injection this with e; subst e; exact hF _ p2)⟩
theorem SetP.bw {P : Nat → Prop} {w w' : World} {g : Nat} {L : List PartR} (h : SetP P w g L) (hb : Bw w w') : SetP P w' g L := h.keep (Keeps.of_bw (F := fun _ => False) hb) fun _ _ h => h
def Put (P : Nat → Prop) (w : World) (g : Nat) (L : List PartR) (w' : World) : Prop := SetP (orNew P w) w' g L ∧ Keeps P w w'
/-- What insert's great statement leaves: the inner row with one part more, its slice stored. -/
def Laid (P : Nat → Prop) (w w3 : World) (g ob oc ib n : Nat) (L : List PartR) (wx : World) : Prop :=
  ∃ b cap, Has wx g 94 #[.slice (some ⟨ob, 0, none⟩) 1 oc] ∧ wx.ownsRow 0 99 1 (.slice (some ⟨ob, 0, none⟩) 1 oc) 1 [.slice (some ⟨b, 0, none⟩) (n + 1) cap] ∧ (b = ib ∨ w3.heap.size ≤ b) ∧ wx.ownsRow 0 97 4 (.slice (some ⟨b, 0, none⟩) (n + 1) cap) (n + 1) (partCells L) ∧ Keeps P w wx
end Go.Proofs.Ytemgdnloabefjaa.Sp
