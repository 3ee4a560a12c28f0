/- Plain: lengths of codes: which are lists of lengths, how many there are of each, whether they form a code. No program in it. -/
import Derived.Test.YtacgnadhpgkcmaaDoorBase
namespace Go.Proofs.YtacgnadhpgkcmaaDoor
open Go.RowKit
set_option linter.unusedVariables false
def lenB (n : Int) : Bool := decide (0 ≤ n ∧ n ≤ 15)
def okLens (l : List Int) : Bool := decide (l.length ≤ 320) && l.all lenB
/-- How many have the length n; none has the length 0. -/
def tal (l : List Int) (n : Nat) : Nat := if n = 0 then 0 else l.count (n : Int)
theorem tal_nil (n : Nat) : tal [] n = 0 := by unfold tal; split <;> simp
theorem tal_snoc (l : List Int) (x n : Nat) : tal (l ++ [(x : Int)]) n = if x = n ∧ 0 < n then tal l n + 1 else tal l n := by
  unfold tal
  by_cases h0 : n = 0
  · subst h0; rw [if_pos rfl, if_neg (by omega), if_pos rfl]
  · rw [if_neg h0, if_neg h0, List.count_append]
    by_cases h : x = n
    · subst h; rw [if_pos ⟨rfl, by omega⟩]; simp
    · rw [if_neg (fun e => h e.1)]
      have : ¬ ((x : Int) = (n : Int)) := by omega
      simp [this]
theorem tal_le (l : List Int) (n : Nat) : tal l n ≤ l.length := by
  unfold tal
  split
  · omega
  · exact List.count_le_length
def talArr (l : List Int) : Array Value := ((List.range 16).map fun n => Value.int .i64 (tal l n : Nat)).toArray
theorem talArr_get (l : List Int) (n : Nat) (h : n < 16) : (talArr l)[n]? = some (.int .i64 (tal l n : Nat)) := by
  unfold talArr
  simp [List.getElem?_range h]
theorem talArr_nil : talArr [] = #[.int .i64 0, .int .i64 0, .int .i64 0, .int .i64 0, .int .i64 0, .int .i64 0, .int .i64 0, .int .i64 0, .int .i64 0, .int .i64 0, .int .i64 0, .int .i64 0, .int .i64 0, .int .i64 0, .int .i64 0, .int .i64 0] := by
  simp [talArr, tal_nil, List.range, List.range.loop]
theorem talArr_put (l : List Int) (x : Nat) (h0 : 0 < x) (h : x < 16) : (talArr l).setIfInBounds x (.int .i64 (tal l x + 1 : Nat)) = talArr (l ++ [(x : Int)]) := by
  apply Array.ext_getElem?
  intro i
  have hsz : (talArr l).size = 16 := by simp [talArr]
  rw [Array.getElem?_setIfInBounds, hsz]
  by_cases hi : i < 16
  · rw [talArr_get (l ++ [(x : Int)]) i hi, tal_snoc]
    by_cases e : x = i
    · subst e; rw [if_pos rfl, if_pos h, if_pos ⟨rfl, h0⟩]
    · rw [if_neg e, talArr_get l i hi, if_neg (fun a => e a.1)]
  · rw [if_neg (by omega), Array.getElem?_eq_none (by rw [hsz]; omega), Array.getElem?_eq_none (by simp [talArr]; omega)]
theorem talArr_zero (l : List Int) : talArr (l ++ [0]) = talArr l := by
  unfold talArr
  congr 2
  funext n
  have := tal_snoc l 0 n
  rw [if_neg (by omega)] at this
  exact congrArg (fun m : Nat => Value.int .i64 (m : Int)) this
end Go.Proofs.YtacgnadhpgkcmaaDoor
