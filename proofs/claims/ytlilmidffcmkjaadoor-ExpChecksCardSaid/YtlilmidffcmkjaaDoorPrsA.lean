/- What is left of a text, plain: places, blanks, words, operators. No program in it. -/
import Derived.Test.YtlilmidffcmkjaaDoorExpF
import Derived.Lib.Strings
import Derived.Lib.SlTrimSet
namespace Go.Proofs.YtlilmidffcmkjaaDoor
open Go.RowKit
set_option linter.unusedVariables false
set_option linter.unusedSimpArgs false
/-- What is left of a text. -/
def dropS (s : ByteArray) (k : Nat) : ByteArray := s.extract k s.size
theorem dropS_size (s : ByteArray) (k : Nat) : (dropS s k).size = s.size - k := by simp [dropS]
theorem dropS_data (s : ByteArray) (k : Nat) : (dropS s k).data.toList = s.data.toList.drop k := by
  have h : s.data.size = s.size := rfl
  simp [dropS, ByteArray.extract, ByteArray.copySlice, List.take_of_length_le, h]
theorem ba_eq {a b : ByteArray} (h : a.data.toList = b.data.toList) : a = b := by
  obtain ⟨a⟩ := a
  obtain ⟨b⟩ := b
  congr 1
  exact Array.toList_inj.1 h
theorem dropS_0 (s : ByteArray) : dropS s 0 = s := ba_eq (by rw [dropS_data]; rfl)
theorem dropS_drop (s : ByteArray) (k j : Nat) : dropS (dropS s k) j = dropS s (k + j) := ba_eq (by rw [dropS_data, dropS_data, dropS_data, List.drop_drop])
theorem dropS_nil {s : ByteArray} {k : Nat} (h : s.size ≤ k) : dropS s k = nilS := toList_nil (by rw [dropS_size]; omega)
theorem bAt_get (s : ByteArray) (i : Nat) : bAt s i = match s.data.toList[i]? with | some b => b.toNat | none => 256 := by
  have h : s.data.toList.length = s.size := by simp
  by_cases c : i < s.size
  · rw [bAt_in c, List.getElem?_eq_getElem (by omega)]
    simp only [Array.getElem_toList]
    rfl
  · rw [bAt_out c, List.getElem?_eq_none (by omega)]
theorem bAt_drop (s : ByteArray) (k i : Nat) : bAt (dropS s k) i = bAt s (k + i) := by rw [bAt_get, bAt_get, dropS_data, List.getElem?_drop]
theorem run_drop {p : Nat → Bool} (hp : p 256 = false) (s : ByteArray) (k : Nat) : runK p (dropS s k) 0 = runK p s k - k := by
  have hg := runK_ge p s k
  refine runK_is hp (Nat.zero_le _) ?_ fun i _ h => ?_
  · rw [bAt_drop, show k + (runK p s k - k) = runK p s k by omega]
    exact runK_end p hp s k
  · rw [bAt_drop]
    exact runK_all (Nat.le_add_right _ _) (by omega)
theorem word_drop (s : ByteArray) (k : Nat) : wordK (dropS s k) 0 = wordK s k - k := run_drop (by decide) s k
theorem blk_has (b : UInt8) : ([32, 9, 10] : List UInt8).contains b = isBlk b.toNat := by
  have e : ∀ c : UInt8, (b == c) = decide (b.toNat = c.toNat) := fun c => by
    rw [Bool.eq_iff_iff]
    simp [UInt8.toNat_inj]
  simp only [List.contains_cons, List.contains_nil, e, isBlk, Bool.or_false]
  simp [Bool.or_assoc]
/-- Blanks passed over. -/
theorem trim_drop (s : ByteArray) (k : Nat) (h : k ≤ s.size) : (⟨(Lib.trimLeftS (dropS s k).data.toList [32, 9, 10]).toArray⟩ : ByteArray) = dropS s (skipK s k) := by
  have hg : k ≤ skipK s k := runK_ge isBlk s k
  have hl : skipK s k ≤ s.size := runK_le isBlk s k h
  have hlen : s.data.toList.length = s.size := by simp
  apply ba_eq
  show Lib.trimLeftS _ _ = _
  rw [dropS_data, dropS_data, Lib.trimLeftS_drop (s.data.toList.drop k) [32, 9, 10] (skipK s k - k) (by rw [List.length_drop]; omega), List.drop_drop]
  · congr 1; omega
  · intro j b hj hb
    rw [List.getElem?_drop] at hb
    have := runK_all (p := isBlk) (s := s) (k := k) (i := k + j) (by omega) (by have : skipK s k = runK isBlk s k := rfl; omega)
    rw [bAt_get, hb] at this
    rw [blk_has]
    exact this
  · intro b hb
    rw [List.getElem?_drop, show k + (skipK s k - k) = skipK s k by omega] at hb
    have := runK_end isBlk (by decide) s k
    rw [bAt_get, show runK isBlk s k = skipK s k from rfl, hb] at this
    rw [blk_has]
    exact this
/-- Operators, one after another: the longest that fits. -/
def scanP (l : List UInt8) (b : ByteArray × Nat) : List (List UInt8 × Nat) → ByteArray × Nat
  | [] => b
  | q :: r => scanP l (if Lib.hasPrefix l q.1 && decide (b.1.size < q.1.length) then (⟨q.1.toArray⟩, q.2) else b) r
theorem u8_beq (c a : UInt8) : (c == a) = decide (a.toNat = c.toNat) := by
  rw [Bool.eq_iff_iff]
  simp only [beq_iff_eq, decide_eq_true_eq]
  exact ⟨fun h => by rw [h], fun h => (UInt8.toNat_inj.1 h).symm⟩
theorem pre_one (l : List UInt8) (c : UInt8) (A : Nat) (h : A = match l[0]? with | some b => b.toNat | none => 256) : Lib.hasPrefix l [c] = decide (A = c.toNat) := by
  subst h
  have hc : c.toNat < 256 := c.toNat_lt
  match l with
  | [] =>
    show false = decide (256 = c.toNat)
    rw [decide_eq_false (by omega)]
  | a :: r =>
    show (c == a && true) = decide (a.toNat = c.toNat)
    rw [Bool.and_true, u8_beq]
theorem pre_two (l : List UInt8) (c d : UInt8) (A B : Nat) (h : A = match l[0]? with | some b => b.toNat | none => 256) (k : B = match l[1]? with | some b => b.toNat | none => 256) : Lib.hasPrefix l [c, d] = (decide (A = c.toNat) && decide (B = d.toNat)) := by
  subst h k
  have hc : c.toNat < 256 := c.toNat_lt
  have hd : d.toNat < 256 := d.toNat_lt
  match l with
  | [] =>
    show false = (decide (256 = c.toNat) && decide (256 = d.toNat))
    rw [decide_eq_false (show ¬ 256 = c.toNat by omega)]; rfl
  | [a] =>
    show (c == a && false) = (decide (a.toNat = c.toNat) && decide (256 = d.toNat))
    rw [decide_eq_false (show ¬ 256 = d.toNat by omega), Bool.and_false, Bool.and_false]
  | a :: b :: r =>
    show (c == a && (d == b && true)) = (decide (a.toNat = c.toNat) && decide (b.toNat = d.toNat))
    rw [Bool.and_true, u8_beq, u8_beq]
theorem ext_one (s : ByteArray) (k : Nat) (c : UInt8) (h : bAt s k = c.toNat) : s.extract k (k + 1) = ⟨#[c]⟩ := by
  have hk := bAt_lt (show bAt s k ≠ 256 by rw [h]; have := c.toNat_lt; omega)
  rw [bAt_in hk] at h
  have hc : s[k] = c := UInt8.toNat_inj.1 h
  apply ba_eq
  have h2 : s.data.size = s.size := rfl
  apply List.ext_getElem
  · simp; omega
  · intro i h3 h4
    obtain rfl : i = 0 := by simpa using h4
    simp [← hc]
    rfl
theorem ext_two (s : ByteArray) (k : Nat) (c d : UInt8) (h : bAt s k = c.toNat) (h' : bAt s (k + 1) = d.toNat) : s.extract k (k + 2) = ⟨#[c, d]⟩ := by
  have hk := bAt_lt (show bAt s k ≠ 256 by rw [h]; have := c.toNat_lt; omega)
  have hk' := bAt_lt (show bAt s (k + 1) ≠ 256 by rw [h']; have := d.toNat_lt; omega)
  rw [bAt_in hk] at h
  rw [bAt_in hk'] at h'
  have hc : s[k] = c := UInt8.toNat_inj.1 h
  have hd : s[k + 1] = d := UInt8.toNat_inj.1 h'
  apply ba_eq
  have h2 : s.data.size = s.size := rfl
  apply List.ext_getElem
  · simp; omega
  · intro i h3 h4
    have h5 : i < 2 := by simpa using h4
    match i, h5 with
    | 0, _ => simp [← hc]; rfl
    | 1, _ => simp [← hd]; rfl
theorem ext_nil (s : ByteArray) (k : Nat) : s.extract k k = nilS := toList_nil (by simp)
set_option maxHeartbeats 4000000 in
/-- The longest operator that fits is the one at k. -/
theorem scan_op (s : ByteArray) (k : Nat) : scanP (dropS s k).data.toList (nilS, 0) sgnT = (s.extract k (k + (opK s k).2), (opK s k).1) := by
  obtain ⟨L, hL⟩ : ∃ L, (dropS s k).data.toList = L := ⟨_, rfl⟩
  have g0 : bAt s k = match L[0]? with | some b => b.toNat | none => 256 := by rw [← hL, ← bAt_get, bAt_drop]; rfl
  have g1 : bAt s (k + 1) = match L[1]? with | some b => b.toNat | none => 256 := by rw [← hL, ← bAt_get, bAt_drop]
  have p1 := fun c => pre_one L c _ g0
  have p2 := fun c d => pre_two L c d _ _ g0 g1
  have x0 := ext_nil s k
  have x1 := ext_one s k
  have x2 := ext_two s k
  rw [hL]
  clear hL g0 g1
  unfold opK
  generalize bAt s k = A at *
  generalize bAt s (k + 1) = B at *
  have hA : A = 61 ∨ A = 33 ∨ A = 60 ∨ A = 62 ∨ A = 124 ∨ A = 38 ∨ A = 43 ∨ A = 45 ∨ A = 42 ∨ A = 47 ∨ A = 37 ∨ (A ≠ 61 ∧ A ≠ 33 ∧ A ≠ 60 ∧ A ≠ 62 ∧ A ≠ 124 ∧ A ≠ 38 ∧ A ≠ 43 ∧ A ≠ 45 ∧ A ≠ 42 ∧ A ≠ 47 ∧ A ≠ 37) := by omega
  have hB : B = 61 ∨ B = 60 ∨ B = 62 ∨ (B ≠ 61 ∧ B ≠ 60 ∧ B ≠ 62) := by omega
  have n0 : nilS.size = 0 := rfl
  have n1 : ∀ c : UInt8, (⟨#[c]⟩ : ByteArray).size = 1 := fun _ => rfl
  have n2 : ∀ c d : UInt8, (⟨#[c, d]⟩ : ByteArray).size = 2 := fun _ _ => rfl
  rcases hA with rfl | rfl | rfl | rfl | rfl | rfl | rfl | rfl | rfl | rfl | rfl | ⟨a1, a2, a3, a4, a5, a6, a7, a8, a9, a10, a11⟩ <;> rcases hB with rfl | rfl | rfl | ⟨b1, b2, b3⟩ <;> simp [scanP, sgnT, p1, p2, n0, n1, n2, x0, *]
  all_goals first | rfl | (refine (x1 _ ?_).symm; rfl) | (refine (x2 _ _ ?_ ?_).symm <;> rfl)
end Go.Proofs.YtlilmidffcmkjaaDoor
