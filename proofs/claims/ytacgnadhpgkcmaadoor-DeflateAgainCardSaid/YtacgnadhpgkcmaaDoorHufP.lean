/- Plain: codes of lengths that form a code: each is within its length, and none begins with another one. No program in it. -/
import Derived.Test.YtacgnadhpgkcmaaDoorHufI
import Derived.Test.YtacgnadhpgkcmaaDoorHufG
namespace Go.Proofs.YtacgnadhpgkcmaaDoor
open Go.RowKit
set_option linter.unusedVariables false
/-- A symbol's length. -/
def lenF (l : List Int) (i : Nat) : Nat := (l.getD i 0).toNat
/-- Lengths of at most 15 that form a code. -/
structure IsCode (l : List Int) : Prop where
  few : l.length ≤ 320
  range : ∀ x ∈ l, 0 ≤ x ∧ x ≤ 15
  code : codeB l = true
theorem IsCode.of_check {l : List Int} (h : checkE l = 0) : IsCode l := by
  unfold checkE at h
  cases ho : okLens l with
  | false => rw [ho] at h; cases h
  | true =>
    rw [ho, if_pos rfl] at h
    have ho2 := ho
    unfold okLens at ho2
    obtain ⟨a, b⟩ := Bool.and_eq_true_iff.1 ho2
    cases hc : codeB l with
    | false => rw [hc] at h; cases h
    | true => exact ⟨of_decide_eq_true a, fun x hx => of_decide_eq_true (List.all_eq_true.1 b x hx), rfl.trans hc⟩
theorem IsCode.check {l : List Int} (h : IsCode l) : checkE l = 0 := by
  unfold checkE
  have : okLens l = true := by
    unfold okLens
    rw [decide_eq_true h.few, Bool.true_and, List.all_eq_true]
    intro x hx
    exact decide_eq_true (h.range x hx)
  rw [this, h.code]; rfl
theorem IsCode.len {l : List Int} (h : IsCode l) (i : Nat) : lenF l i ≤ 15 ∧ l.getD i 0 = (lenF l i : Nat) := by
  unfold lenF
  by_cases hi : i < l.length
  · have := h.range l[i] (List.getElem_mem hi)
    have e : l.getD i 0 = l[i] := by simp [List.getD, hi]
    rw [e]; omega
  · have e : l.getD i 0 = 0 := by simp [List.getD, List.getElem?_eq_none (Nat.le_of_not_lt hi)]
    rw [e]; simp
theorem lenF_lt {l : List Int} {i : Nat} (h : 0 < lenF l i) : i < l.length := by
  rcases Nat.lt_or_ge i l.length with hi | hi
  · exact hi
  · have e : l.getD i 0 = 0 := by simp [List.getD, List.getElem?_eq_none hi]
    unfold lenF at h; rw [e] at h; simp at h
theorem codeF_eq {l : List Int} (h : IsCode l) {i : Nat} (hi : 0 < lenF l i) : codeF l i = fstC l (lenF l i) + tal (l.take i) (lenF l i) := by
  obtain ⟨h1, h2⟩ := h.len i
  unfold codeF
  rw [if_neg (by rw [h2]; omega)]
  show nxtC l i (lenF l i) = _
  rfl
theorem tal_take_succ {l : List Int} (h : IsCode l) {i : Nat} (hi : 0 < lenF l i) : tal (l.take (i + 1)) (lenF l i) = tal (l.take i) (lenF l i) + 1 := by
  have hl := lenF_lt hi
  rw [List.take_succ_eq_append_getElem hl]
  have e : l[i] = ((lenF l i : Nat) : Int) := by rw [← (h.len i).2]; simp [List.getD, hl]
  rw [e, tal_snoc, if_pos ⟨rfl, hi⟩]
theorem tal_take_mono (l : List Int) (n : Nat) {i j : Nat} (h : i ≤ j) : tal (l.take i) n ≤ tal (l.take j) n := by
  unfold tal
  split
  · omega
  · exact List.Sublist.count_le _ (List.take_sublist_take_left h)
theorem tal_take_all (l : List Int) (n i : Nat) : tal (l.take i) n ≤ tal l n := by
  unfold tal
  split
  · omega
  · exact List.Sublist.count_le _ (List.take_sublist _ _)
/-- The end of all codes of at most this length, in units of the least. -/
theorem edge_eq (l : List Int) : ∀ n, n ≤ 15 → (fstC l n + tal l n) * 2 ^ (15 - n) = kraftS l (n + 1)
  | 0, _ => by simp [fstC, kraftS, tal]
  | n + 1, h => by
    have ih := edge_eq l n (by omega)
    show ((fstC l n + tal l n) * 2 + tal l (n + 1)) * 2 ^ (15 - (n + 1)) = kraftS l (n + 1) + tal l (n + 1) * 2 ^ (15 - (n + 1))
    rw [← ih, Nat.add_mul, Nat.mul_assoc, ← Nat.pow_succ', show (15 - (n + 1)).succ = 15 - n by omega]
theorem kraft_mono (l : List Int) {a b : Nat} (h : a ≤ b) : kraftS l a ≤ kraftS l b := by
  induction h with
  | refl => exact Nat.le_refl _
  | step h ih => exact Nat.le_trans ih (Nat.le_add_right _ _)
theorem fst_edge (l : List Int) (n : Nat) (h : n ≤ 14) : fstC l (n + 1) * 2 ^ (15 - (n + 1)) = kraftS l (n + 1) := by
  rw [← edge_eq l n (by omega)]
  show (fstC l n + tal l n) * 2 * _ = _
  rw [Nat.mul_assoc, ← Nat.pow_succ', show (15 - (n + 1)).succ = 15 - n by omega]
theorem kraft_top {l : List Int} (h : IsCode l) : kraftS l 16 ≤ 32768 := by
  have hc := h.code
  unfold codeB at hc
  rw [Bool.or_eq_true, Bool.or_eq_true] at hc
  rcases hc with hc | hc | hc
  · unfold zeroB at hc
    have e := of_decide_eq_true hc
    injection e with e0 e; injection e with e1 e; injection e with e2 e; injection e with e3 e; injection e with e4 e; injection e with e5 e; injection e with e6 e; injection e with e7 e; injection e with e8 e; injection e with e9 e; injection e with e10 e; injection e with e11 e; injection e with e12 e; injection e with e13 e; injection e with e14 e; injection e with e15 e
    simp only [kraftS]
    omega
  · unfold oneB at hc
    have e := of_decide_eq_true hc
    injection e with e0 e; injection e with e1 e; injection e with e2 e; injection e with e3 e; injection e with e4 e; injection e with e5 e; injection e with e6 e; injection e with e7 e; injection e with e8 e; injection e with e9 e; injection e with e10 e; injection e with e11 e; injection e with e12 e; injection e with e13 e; injection e with e14 e; injection e with e15 e
    simp only [kraftS]
    omega
  · exact Nat.le_of_eq (of_decide_eq_true hc)
theorem code_lo {l : List Int} (h : IsCode l) {i : Nat} (hi : 0 < lenF l i) : kraftS l (lenF l i) ≤ codeF l i * 2 ^ (15 - lenF l i) := by
  obtain ⟨n, hn⟩ : ∃ n, lenF l i = n + 1 := ⟨lenF l i - 1, by omega⟩
  have := (h.len i).1
  rw [codeF_eq h hi, hn, ← fst_edge l n (by omega)]
  exact Nat.mul_le_mul_right _ (Nat.le_add_right _ _)
theorem code_hi {l : List Int} (h : IsCode l) {i : Nat} (hi : 0 < lenF l i) : (codeF l i + 1) * 2 ^ (15 - lenF l i) ≤ kraftS l (lenF l i + 1) := by
  rw [← edge_eq l _ (h.len i).1, codeF_eq h hi]
  refine Nat.mul_le_mul_right _ ?_
  have h1 := tal_take_succ h hi
  have h2 := tal_take_all l (lenF l i) (i + 1)
  omega
theorem code_lt {l : List Int} (h : IsCode l) {i : Nat} (hi : 0 < lenF l i) : codeF l i < 2 ^ lenF l i := by
  have h1 := code_hi h hi
  have h2 := kraft_mono l (show lenF l i + 1 ≤ 16 by have := (h.len i).1; omega)
  have h3 := kraft_top h
  have h4 : (codeF l i + 1) * 2 ^ (15 - lenF l i) ≤ 2 ^ lenF l i * 2 ^ (15 - lenF l i) := by
    rw [← Nat.pow_add, show lenF l i + (15 - lenF l i) = 15 by have := (h.len i).1; omega]
    show _ ≤ 32768
    omega
  exact Nat.le_of_mul_le_mul_right h4 (Nat.two_pow_pos _)
theorem code_zero {l : List Int} (h : IsCode l) {i : Nat} (hi : lenF l i = 0) : codeF l i = 0 := by
  unfold codeF
  rw [if_pos]
  rw [(h.len i).2, hi]; rfl
/-- No symbol's code begins with another one's. -/
theorem code_apart {l : List Int} (h : IsCode l) {i j : Nat} (hi : 0 < lenF l i) (hij : lenF l i ≤ lenF l j) (hc : codeF l j / 2 ^ (lenF l j - lenF l i) = codeF l i) : i = j := by
  have hj : 0 < lenF l j := by omega
  have h15 := (h.len j).1
  rcases Nat.eq_or_lt_of_le hij with he | hlt
  · rw [← he, Nat.sub_self, Nat.pow_zero, Nat.div_one] at hc
    rw [codeF_eq h hi, codeF_eq h hj, ← he] at hc
    rcases Nat.lt_trichotomy i j with a | a | a
    · have h1 := tal_take_succ h hi
      have h2 := tal_take_mono l (lenF l i) (show i + 1 ≤ j from a)
      omega
    · exact a
    · have h1 := tal_take_succ h hj
      rw [← he] at h1
      have h2 := tal_take_mono l (lenF l i) (show j + 1 ≤ i from a)
      omega
  · exfalso
    have h1 := code_hi h hi
    have h2 := code_lo h hj
    have h3 := kraft_mono l (show lenF l i + 1 ≤ lenF l j from hlt)
    have h4 : codeF l j < (codeF l i + 1) * 2 ^ (lenF l j - lenF l i) := by
      rw [← hc]
      have := Nat.div_add_mod (codeF l j) (2 ^ (lenF l j - lenF l i))
      have hm := Nat.mod_lt (codeF l j) (Nat.two_pow_pos (lenF l j - lenF l i))
      rw [Nat.add_mul, Nat.one_mul, Nat.mul_comm (_ / _)]
      omega
    have h5 : codeF l j * 2 ^ (15 - lenF l j) < (codeF l i + 1) * 2 ^ (lenF l j - lenF l i) * 2 ^ (15 - lenF l j) := Nat.mul_lt_mul_of_pos_right h4 (Nat.two_pow_pos _)
    rw [Nat.mul_assoc, ← Nat.pow_add, show lenF l j - lenF l i + (15 - lenF l j) = 15 - lenF l i by omega] at h5
    omega
end Go.Proofs.YtacgnadhpgkcmaaDoor
