/- One set of a call (for spans without values). -/
import Derived.Test.YtciaebhkemdilabRvV
namespace Go.Proofs.Ytciaebhkemdilab
open Go.RowKit Go.Conc
set_option linter.unusedVariables false
set_option linter.unusedSimpArgs false
set_option maxRecDepth 100000 in
theorem new_has (w : World) :
    Calls Try.prog 39 #[] w fun e w' => ∃ g : Nat, e = .returned (.pointer (some ⟨g, 0, none⟩)) ∧ Has w' g 103 #[.slice none 0 0] ∧ w.heap.size ≤ g ∧ Bw w w' := by
  have H : Hid (Has (w.alloc (.cells #[.slice none 0 0] 103)) w.heap.size 103 #[.slice none 0 0]) := hid (Has.new w _ _)
  have HB := hid ((Bw.refl w).alloc (.cells #[.slice none 0 0] 103))
  go_enter Try.func39, Try.ntmps39
  go_wp2
  go_returns
  exact ⟨_, rfl, H.out, Nat.le_refl _, HB.out⟩
/-- A set of the call's own. -/
def One (w0 w : World) (g : Nat) (L : List PartR) : Prop := ∃ P : Nat → Prop, SetP P w g L ∧ (∀ i, P i → w0.heap.size ≤ i) ∧ Bw w0 w
theorem One.at {w0 w : World} {g : Nat} {L : List PartR} (h : One w0 w g L) : SetAt w g L := by
  obtain ⟨P, h1, _⟩ := h
  exact h1.at
theorem One.bw {w0 w w' : World} {g : Nat} {L : List PartR} (h : One w0 w g L) (hb : Bw w w') : One w0 w' g L := by
  obtain ⟨P, h1, h2, h3⟩ := h
  exact ⟨P, h1.bw hb, h2, h3.trans hb⟩
theorem One.low {w0 w : World} {g : Nat} {L : List PartR} (h : One w0 w g L) : Bw w0 w := h.choose_spec.2.2
theorem One.put {w0 w w' : World} {g : Nat} {L L' : List PartR} {P : Nat → Prop} (hP : ∀ i, P i → w0.heap.size ≤ i) (hb : Bw w0 w) (h : Put P w g L' w') : One w0 w' g L' :=
  ⟨_, h.1, fun i hi => hi.elim (hP i) fun hi => Nat.le_trans hb.size hi, Below.trans hb (h.2.below hb.size hP)⟩
/-- One Add of the set. -/
theorem one_add (w0 : World) (g : Nat) (L : List PartR) (hR : Rising L) (h9 : L.length ≤ 1000) (lo hi x : Int) (w : World) (hs : One w0 w g L) :
    Calls Try.prog 56 #[.pointer (some ⟨g, 0, none⟩), .int .i64 lo, .int .i64 hi, .agg #[]] w fun e w' => e = .returned (.int .i64 (addE L lo hi)) ∧ One w0 w' g (addL L lo hi x) := by
  obtain ⟨P, h1, h2, h3⟩ := hs
  exact (add_any P g L hR h9 lo hi x w h1).mono fun e w' ⟨a, b⟩ => ⟨a, One.put (L := L) h2 h3 b⟩
end Go.Proofs.Ytciaebhkemdilab
