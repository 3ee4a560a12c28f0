import Derived.Test.YtkmbgkcpohchhaaGreatDoorDecH
/- What Dynamic writes, inflated (plain; not run yet: wants a seat that holds inflate). -/
namespace Go.Proofs.YtkmbgkcpohchhaaGreatDoor
open Go.RowKit
set_option linter.unusedVariables false
theorem dyn_inf {ts : List TokR} {want : List UInt8} (hok : costOk ts = true) (hl : ∀ t ∈ ts, t.lit < 256) (he : expGo 1073741824 ts [] = (0, want)) (hw : want.length ≤ 1073741824) {a : ByteArray} {n er : Int} (h : InfR (outS (dynP ts)) want.length a n er) :
    a = ⟨want.toArray⟩ ∧ n = ((outS (dynP ts)).size : Nat) ∧ er = 0 := by
  have he2 := exp_lim (lim' := ((want.length : Nat) : Int)) ts [] want he (Int.le_refl _)
  have hr := dynamic_read hok hl he2 ⟨#[]⟩
  rw [app_nil] at hr
  have hR : InfR (outS (dynP ts)) want.length ⟨want.toArray⟩ ((outS (dynP ts)).size : Nat) 0 := .inr ⟨want.length, rfl, hw, .inl ⟨_, want, hr, rfl, by rw [outS_size], rfl⟩⟩
  exact h.unique hR
end Go.Proofs.YtkmbgkcpohchhaaGreatDoor
