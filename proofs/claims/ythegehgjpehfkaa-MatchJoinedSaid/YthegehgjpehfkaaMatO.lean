/- live of match's laws (contract of the function). -/
import Derived.Test.YthegehgjpehfkaaMatL
namespace Go.Proofs.Ythegehgjpehfkaa
open Go.RowKit
set_option linter.unusedVariables false
def l1 : List TokR := [⟨97, 0, 0⟩, ⟨98, 0, 0⟩, ⟨0, 4, 2⟩]
def l2 : List TokR := [⟨0, 4, 2⟩]
def l3 : List TokR := [⟨97, 0, 0⟩]
theorem l1_exp : expS l1 6 = ⟨#[97, 98, 97, 98, 97, 98]⟩ ∧ expE l1 6 = 0 := by decide +kernel
theorem l2_exp : expE l2 6 = 3 := by decide +kernel
theorem l3_cost : costV l3 = 15 ∧ costE l3 = 0 := by decide +kernel
theorem toks_new (w : World) (l : List TokR) (hv : ∀ o ∈ l, o.lit < 256) : ToksAt (w.alloc (.cells (tokCells l).toArray 37)) (some ⟨w.heap.size, 0, none⟩) l :=
  toksAt_cells (fun _ => by simp) (fun j u hu => by
    have := (Has.new w 37 (tokCells l).toArray).cell j
    rw [this, ← hu]; simp) hv
set_option maxRecDepth 100000 in
set_option maxHeartbeats 2000000 in
theorem live_any (w : World) :
    Calls Try.prog 9 #[] w fun e w' => e = .returned (.bool true) ∧ Bw w w' := by
  have H1 := hid (fun W : World => (exp_any (some ⟨W.heap.size, 0, none⟩) 3 3 (by omega) l1 (hid rfl) 6 _ (toks_new W l1 (by decide))))
  have H2 := hid (fun W : World => (exp_any (some ⟨W.heap.size, 0, none⟩) 1 1 (by omega) l2 (hid rfl) 6 _ (toks_new W l2 (by decide))))
  have H3 := hid (fun W : World => (cost_any (some ⟨W.heap.size, 0, none⟩) 1 1 (by omega) l3 (hid rfl) _ (toks_new W l3 (by decide))))
  have H4 := hid (fun W : World => find_short ⟨#[97, 98]⟩ (by decide) W)
  have E1 := hid l1_exp
  have E2 := hid l2_exp
  have E3 := hid l3_cost
  go_enter Try.func9, Try.ntmps9
  go_wp2_with fail
  refine (H1.out _).mono ?_
  rintro e w1 ⟨rfl, hb1⟩
  rw [E1.out.1, E1.out.2]
  have HB1 := hid (((Bw.refl w).alloc _).trans hb1)
  clear hb1
  go_wp2_with fail
  refine (H2.out _).mono ?_
  rintro e w2 ⟨rfl, hb2⟩
  rw [E2.out]
  have HB2 := hid ((HB1.out.alloc _).trans hb2)
  clear hb2
  generalize expS l2 6 = sx at *
  go_wp2_with fail
  refine (H3.out _).mono ?_
  rintro e w3 ⟨rfl, hb3⟩
  rw [E3.out.1, E3.out.2]
  have HB3 := hid ((HB2.out.alloc _).trans hb3)
  clear hb3
  go_wp2_with fail
  refine (H4.out _).mono ?_
  rintro e w4 ⟨a4, c4, rfl, hb4⟩
  have HB4 := hid (HB3.out.trans hb4)
  clear hb4
  have hs2 : (⟨#[97, 98]⟩ : ByteArray).size = 2 := rfl
  rw [hs2]
  go_wp2
  go_returns
  exact ⟨rfl, HB4.out⟩
end Go.Proofs.Ythegehgjpehfkaa
