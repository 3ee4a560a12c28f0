/- The document's Check: plain facts. No program in it. -/
import Derived.Test.YtacgnadhpgkcmaaDoorHufC
namespace Go.Proofs.YtacgnadhpgkcmaaDoor
open Go.RowKit
set_option linter.unusedVariables false
/-- How many have a length from 1 on and below k. -/
def talS (l : List Int) : Nat → Nat
  | 0 => 0
  | k + 1 => talS l k + tal l k
theorem talS_snoc (l : List Int) (x : Nat) : ∀ k, talS (l ++ [(x : Int)]) k = talS l k + if 0 < x ∧ x < k then 1 else 0
  | 0 => by simp [talS]
  | k + 1 => by
    have h := talS_snoc l x k
    have h2 := tal_snoc l x k
    show talS _ k + tal _ k = talS l k + tal l k + _
    rw [h, h2]
    repeat' split
    all_goals omega
theorem kraftS_snoc (l : List Int) (x : Nat) : ∀ k, kraftS (l ++ [(x : Int)]) k = kraftS l k + if 0 < x ∧ x < k then 2 ^ (15 - x) else 0
  | 0 => by simp [kraftS]
  | k + 1 => by
    have h := kraftS_snoc l x k
    have h2 := tal_snoc l x k
    show kraftS _ k + tal _ k * 2 ^ (15 - k) = kraftS l k + tal l k * 2 ^ (15 - k) + _
    rw [h, h2]
    by_cases e : x = k
    · subst e
      by_cases h0 : 0 < x
      · rw [if_neg (by omega), if_pos ⟨rfl, h0⟩, if_pos ⟨h0, by omega⟩, Nat.add_mul, Nat.one_mul]; omega
      · rw [if_neg (by omega), if_neg (by omega), if_neg (by omega)]; omega
    · rw [if_neg (c := x = k ∧ 0 < k) (fun a => e a.1)]
      by_cases h0 : 0 < x ∧ x < k
      · rw [if_pos h0, if_pos ⟨h0.1, by omega⟩]; omega
      · rw [if_neg h0, if_neg (by omega)]; omega
theorem talS_zero (l : List Int) : ∀ k, talS l k = 0 → ∀ j, j < k → tal l j = 0
  | 0, _, j, h => absurd h (by omega)
  | k + 1, h0, j, h => by
    have h1 : talS l k + tal l k = 0 := h0
    by_cases e : j = k
    · subst e; omega
    · exact talS_zero l k (by omega) j (by omega)
/-- What the document's Check knows behind p. -/
structure ChkAt (p : List Int) (s n last : Nat) : Prop where
  sum : s = kraftS p 16
  num : n = talS p 16
  one : n = 1 → ∀ j, j < 16 → tal p j = if j = last then 1 else 0
theorem chk_nil : ChkAt [] 0 0 0 := by
  have hk : ∀ k, kraftS [] k = 0 := fun k => by
    induction k with
    | zero => rfl
    | succ k ih => show kraftS [] k + tal [] k * 2 ^ (15 - k) = 0; rw [ih, tal_nil, Nat.zero_mul]
  have hs : ∀ k, talS [] k = 0 := fun k => by
    induction k with
    | zero => rfl
    | succ k ih => show talS [] k + tal [] k = 0; rw [ih, tal_nil]
  exact ⟨(hk 16).symm, (hs 16).symm, fun h => absurd h (by omega)⟩
theorem chk_zero {p : List Int} {s n last : Nat} (h : ChkAt p s n last) : ChkAt (p ++ [0]) s n last := by
  have e : ((0 : Nat) : Int) = 0 := rfl
  have hs := kraftS_snoc p 0 16
  have hn := talS_snoc p 0 16
  rw [if_neg (by omega), Nat.add_zero, e] at hs hn
  refine ⟨h.sum.trans hs.symm, h.num.trans hn.symm, fun h1 j hj => ?_⟩
  have := tal_snoc p 0 j
  rw [if_neg (by omega), e] at this
  exact this.trans (h.one h1 j hj)
theorem chk_put {p : List Int} {s n last : Nat} (h : ChkAt p s n last) (x : Nat) (h0 : 0 < x) (hx : x < 16) : ChkAt (p ++ [(x : Int)]) (s + 2 ^ (15 - x)) (n + 1) x := by
  have hs := kraftS_snoc p x 16
  have hn := talS_snoc p x 16
  rw [if_pos ⟨h0, hx⟩] at hs hn
  refine ⟨(congrArg (fun z => z + 2 ^ (15 - x)) h.sum).trans hs.symm, (congrArg (fun z => z + 1) h.num).trans hn.symm, fun h1 j hj => ?_⟩
  have hz := talS_zero p 16 (by have := h.num; omega) j hj
  rw [tal_snoc, hz]
  by_cases e : x = j
  · subst e; rw [if_pos ⟨rfl, h0⟩, if_pos rfl]
  · rw [if_neg (fun a => e a.1), if_neg (fun a => e a.symm)]
theorem chk_code {l : List Int} {s n last : Nat} (h : ChkAt l s n last) : codeB l = (decide (n = 0) || (decide (n = 1 ∧ last = 1) || decide (s = 32768))) := by
  have hn := h.num
  simp only [talS] at hn
  have hz : zeroB l = decide (n = 0) := by
    unfold zeroB
    rw [decide_eq_decide]
    constructor
    · intro e
      injection e with e0 e; injection e with e1 e; injection e with e2 e; injection e with e3 e; injection e with e4 e; injection e with e5 e; injection e with e6 e; injection e with e7 e; injection e with e8 e; injection e with e9 e; injection e with e10 e; injection e with e11 e; injection e with e12 e; injection e with e13 e; injection e with e14 e; injection e with e15 e
      omega
    · intro e
      have a := talS_zero l 16 (by rw [← h.num]; exact e)
      rw [a 0 (by omega), a 1 (by omega), a 2 (by omega), a 3 (by omega), a 4 (by omega), a 5 (by omega), a 6 (by omega), a 7 (by omega), a 8 (by omega), a 9 (by omega), a 10 (by omega), a 11 (by omega), a 12 (by omega), a 13 (by omega), a 14 (by omega), a 15 (by omega)]
      rfl
  have ho : oneB l = decide (n = 1 ∧ last = 1) := by
    unfold oneB
    rw [decide_eq_decide]
    constructor
    · intro e
      injection e with e0 e; injection e with e1 e; injection e with e2 e; injection e with e3 e; injection e with e4 e; injection e with e5 e; injection e with e6 e; injection e with e7 e; injection e with e8 e; injection e with e9 e; injection e with e10 e; injection e with e11 e; injection e with e12 e; injection e with e13 e; injection e with e14 e; injection e with e15 e
      have n1 : n = 1 := by omega
      refine ⟨n1, ?_⟩
      have b := h.one n1 1 (by omega)
      by_cases c : last = 1
      · exact c
      · rw [if_neg (fun a => c a.symm)] at b; omega
    · rintro ⟨n1, rfl⟩
      have a := h.one n1
      rw [a 0 (by omega), a 1 (by omega), a 2 (by omega), a 3 (by omega), a 4 (by omega), a 5 (by omega), a 6 (by omega), a 7 (by omega), a 8 (by omega), a 9 (by omega), a 10 (by omega), a 11 (by omega), a 12 (by omega), a 13 (by omega), a 14 (by omega), a 15 (by omega)]
      rfl
  unfold codeB
  rw [hz, ho, h.sum]
end Go.Proofs.YtacgnadhpgkcmaaDoor
