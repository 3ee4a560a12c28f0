/- A text in brackets, plain: what the law builds; how deep brackets stand against the law's own count. No program in it. -/
import Derived.Test.YtlilmidffcmkjaaDoorPrsK
import Derived.Test.YtlilmidffcmkjaaDoorExpD
namespace Go.Proofs.YtlilmidffcmkjaaDoor
open Go.RowKit
set_option linter.unusedVariables false
set_option linter.unusedSimpArgs false
/-- A text in brackets, with blanks. -/
def brkT (s : ByteArray) : ByteArray := ⟨#[10, 40, 32]⟩ ++ s ++ ⟨#[9, 41, 32]⟩
theorem brkT_data (s : ByteArray) : (brkT s).data.toList = [10, 40, 32] ++ s.data.toList ++ [9, 41, 32] := by
  unfold brkT
  simp [ByteArray.data_append]
theorem brkT_size (s : ByteArray) : (brkT s).size = s.size + 6 := by
  have h := congrArg List.length (brkT_data s)
  have e : (brkT s).data.toList.length = (brkT s).size := by simp
  have e2 : s.data.toList.length = s.size := by simp
  rw [List.length_append, List.length_append, e, e2] at h
  simp at h
  omega
theorem brkT_brk (s : ByteArray) : Brk s (brkT s) := by
  have e2 : s.data.toList.length = s.size := by simp
  have g : ∀ k, bAt (brkT s) k = match ([10, 40, 32] ++ s.data.toList ++ [9, 41, 32] : List UInt8)[k]? with | some b => b.toNat | none => 256 := fun k => by
    rw [bAt_get, brkT_data]
    rfl
  refine ⟨brkT_size s, by rw [g]; rfl, by rw [g]; rfl, by rw [g]; rfl, fun k hk => ?_, ?_, ?_, ?_⟩
  · rw [g, bAt_get, List.append_assoc, List.getElem?_append_right (by simp), List.getElem?_append_left (by simp; omega)]
    simp
    rfl
  · rw [g, List.getElem?_append_right (by simp)]
    simp [e2]
  · rw [g, List.getElem?_append_right (by simp)]
    simp [e2]
  · rw [g, List.getElem?_append_right (by simp)]
    simp [e2]
theorem dpt_step (s : ByteArray) (k : Nat) (h : k < s.size) : dpt s (k + 1) = brk s[k] (dpt s k) := by
  rw [dpt, bAt_in h]
  unfold brk
  by_cases c : s[k] = 40
  · rw [c]; rfl
  · have c' : ¬ s[k].toNat = 40 := fun e => c (UInt8.toNat_inj.1 (by rw [e]; rfl))
    rw [if_neg c', if_neg c]
    by_cases d : s[k] = 41
    · rw [d]; rfl
    · have d' : ¬ s[k].toNat = 41 := fun e => d (UInt8.toNat_inj.1 (by rw [e]; rfl))
      rw [if_neg d', if_neg d]
theorem dsc_ge : ∀ (x : List UInt8) (n m : Int), m ≤ (dsc x n m).2
  | [], _, _ => Int.le_refl _
  | c :: r, n, m => by
    rw [dsc]
    exact Int.le_trans (Int.le_max_left _ _) (dsc_ge r _ _)
theorem dsc_at (s : ByteArray) : ∀ k, k ≤ s.size → ∃ m, dsc s.data.toList 0 0 = dsc (s.data.toList.drop k) (dpt s k) m ∧ dpt s k ≤ m
  | 0, _ => ⟨0, rfl, Int.le_refl _⟩
  | k + 1, h => by
    obtain ⟨m, e, hm⟩ := dsc_at s k (by omega)
    have hl : s.data.toList.length = s.size := by simp
    refine ⟨max m (dpt s (k + 1)), ?_, Int.le_max_right _ _⟩
    rw [e, List.drop_eq_getElem_cons (i := k) (by omega), dsc, dpt_step s k (by omega)]
    simp only [Array.getElem_toList]
    rfl
theorem dpt_deep (s : ByteArray) (k : Nat) (h : k ≤ s.size) : dpt s k ≤ deepF s := by
  obtain ⟨m, e, hm⟩ := dsc_at s k h
  unfold deepF
  rw [e]
  exact Int.le_trans hm (dsc_ge _ _ _)
theorem dpt_le (s : ByteArray) : ∀ k : Nat, -(k : Int) ≤ dpt s k ∧ dpt s k ≤ k
  | 0 => ⟨by rw [dpt]; omega, by rw [dpt]; omega⟩
  | k + 1 => by
    have := dpt_le s k
    rw [dpt]
    split
    · omega
    · split <;> omega
end Go.Proofs.YtlilmidffcmkjaaDoor
