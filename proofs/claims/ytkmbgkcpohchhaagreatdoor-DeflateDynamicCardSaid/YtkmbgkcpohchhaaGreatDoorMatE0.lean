import Derived.Test.YtkmbgkcpohchhaaGreatDoorGTokKit
import Derived.Test.YtkmbgkcpohchhaaGreatDoorGRowB
/- Expand, what both sides tell. -/
namespace Go.Proofs.YtkmbgkcpohchhaaGreatDoor
open Go.RowKit
set_option linter.unusedVariables false
theorem rep_byte (out : List UInt8) (d j : Nat) (h1 : 1 ≤ d) (h2 : d ≤ out.length) : ∃ h : (rep out d j).length - d < (rep out d j).length, rep out d (j + 1) = rep out d j ++ [(rep out d j)[(rep out d j).length - d]'h] := by
  have hl := rep_len out d j
  refine ⟨by omega, ?_⟩
  rw [rep, rep1, List.getD_eq_getElem?_getD, List.getElem?_eq_getElem (by omega)]
  rfl
/-- How a list of tokens that was gone through ends. -/
def ExpPost (l : List TokR) (limit : Int) (w : World) (e : Ending) (w' : World) : Prop := e = .returned (.tuple #[.string (expS l limit), .int .i64 (expE l limit)]) ∧ Bw w w'
theorem exp_end {l : List TokR} {limit : Int} {out : List UInt8} (h1 : lmB limit = true) (h : expGo limit l [] = (0, out)) : expS l limit = ⟨out.toArray⟩ ∧ expE l limit = 0 := by
  unfold expS expE; rw [h1, h]; exact ⟨rfl, rfl⟩
theorem exp_bad {l : List TokR} {limit : Int} {e : Int} (h1 : lmB limit = true) (h : expGo limit l [] = (e, [])) : expS l limit = ⟨#[]⟩ ∧ expE l limit = e := by
  unfold expS expE; rw [h1, h]; exact ⟨rfl, rfl⟩
end Go.Proofs.YtkmbgkcpohchhaaGreatDoor
