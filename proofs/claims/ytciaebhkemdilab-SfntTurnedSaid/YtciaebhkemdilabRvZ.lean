/- What the texts of spans lean on (for spans without values). -/
import Derived.Test.YtciaebhkemdilabRows
import Derived.Test.YtciaebhkemdilabKitC
import Derived.Test.YtciaebhkemdilabBase
import Derived.Maps.AppendAt
import Derived.OwnWalk
import Derived.Deep.QuietTactic
import Derived.BigQuiet
namespace Go.Proofs.Ytciaebhkemdilab
open Go.RowKit Go.Conc
set_option linter.unusedVariables false
set_option linter.unusedSimpArgs false
def spanCells (l : List (Nat × Nat)) : List Value := l.flatMap fun x => [.int .i64 x.1, .int .i64 x.2]
theorem spanCells_snoc (l : List (Nat × Nat)) (a b : Nat) : spanCells (l ++ [(a, b)]) = spanCells l ++ [.int .i64 a, .int .i64 b] := by simp [spanCells]
theorem spanCells_get (l : List (Nat × Nat)) (i : Nat) (h : i < l.length) : (spanCells l)[i * 2]? = some (.int .i64 (l[i].1 : Nat)) ∧ (spanCells l)[i * 2 + 1]? = some (.int .i64 (l[i].2 : Nat)) := by
  induction l generalizing i with
  | nil => simp at h
  | cons x l ih =>
    have e : spanCells (x :: l) = .int .i64 x.1 :: .int .i64 x.2 :: spanCells l := by simp [spanCells]
    rw [e]
    cases i with
    | zero => exact ⟨rfl, rfl⟩
    | succ i =>
      have := ih i (by simpa using h)
      rw [show (i + 1) * 2 = i * 2 + 1 + 1 by omega]
      simpa using this
theorem spanCells_len (l : List (Nat × Nat)) : (spanCells l).length = l.length * 2 := by
  induction l with
  | nil => rfl
  | cons x l ih =>
    have e : spanCells (x :: l) = [.int .i64 x.1, .int .i64 x.2] ++ spanCells l := by simp [spanCells]
    rw [e, List.length_append, ih, List.length_cons]
    simp only [List.length_cons, List.length_nil]
    omega
end Go.Proofs.Ytciaebhkemdilab
