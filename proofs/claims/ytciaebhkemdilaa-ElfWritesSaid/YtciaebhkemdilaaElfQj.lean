/- A slice that is not there has no room (what came in). -/
import Derived.Test.YtciaebhkemdilaaElfQi
import Derived.Test.YtciaebhkemdilaaElfQh
import Derived.ProofKit
import Derived.OpenShut
namespace Go.Proofs.Ytciaebhkemdilaa
open Go.RowKit Go.ChangeShapes Go.WideShapes Go.ChangeAt
set_option linter.unusedVariables false
section
variable {H : Type} {enc : TypeId × Value → H} {w : World} {base : Nat} {spare : Nat → Bool} {held : Bool}
theorem nil_seg {n : Nat} {u : Value} {y : DataW H × List MemPlace} {A : Option Addr} {len cap : Nat} (h : DataW.trod enc Try.prog w base spare held n 24 [u] = some y) (he : u = .slice A len cap) : A = none → cap = 0 := by
  intro hA
  subst hA
  rcases Go.Deep.open_slice Try.underlying24 h with ⟨hcs, _⟩ | ⟨a, len', cap', mm, nn, D, Pl, hcs, _⟩
  · simp only [List.cons.injEq, and_true] at hcs
    rw [hcs] at he
    injection he with _ _ h3
    exact h3.symm
  · simp only [List.cons.injEq, and_true] at hcs
    rw [hcs] at he
    injection he with h1
    cases h1
theorem nil_sec {n : Nat} {u : Value} {y : DataW H × List MemPlace} {A : Option Addr} {len cap : Nat} (h : DataW.trod enc Try.prog w base spare held n 25 [u] = some y) (he : u = .slice A len cap) : A = none → cap = 0 := by
  intro hA
  subst hA
  rcases Go.Deep.open_slice Try.underlying25 h with ⟨hcs, _⟩ | ⟨a, len', cap', mm, nn, D, Pl, hcs, _⟩
  · simp only [List.cons.injEq, and_true] at hcs
    rw [hcs] at he
    injection he with _ _ h3
    exact h3.symm
  · simp only [List.cons.injEq, and_true] at hcs
    rw [hcs] at he
    injection he with h1
    cases h1
end
end Go.Proofs.Ytciaebhkemdilaa
