import Derived.Test.YtlilmidffcmkjaaGreatDoorExpF
import Derived.Lib.Strings
import Derived.Lib.SlTrimSet
import Derived.Lib.ParseIntB
import Derived.Lib.IndexAny
/- What is left of a text, plain: places, blanks, words, operators. No program in it. -/
namespace Go.Proofs.YtlilmidffcmkjaaGreatDoor
open Go.RowKit
set_option linter.unusedVariables false
set_option linter.unusedSimpArgs false
/-- What is left of a text. -/
def dropS (s : ByteArray) (k : Nat) : ByteArray := s.extract k s.size
theorem dropS_size (s : ByteArray) (k : Nat) : (dropS s k).size = s.size - k := by simp [dropS]
theorem dropS_data (s : ByteArray) (k : Nat) : (dropS s k).data.toList = s.data.toList.drop k := by
  have h : s.data.size = s.size := rfl
  simp [dropS, ByteArray.extract, ByteArray.copySlice, List.take_of_length_le, h]
theorem ba_eq {a b : ByteArray} (h : a.data.toList = b.data.toList) : a = b := by
  obtain ⟨a⟩ := a
  obtain ⟨b⟩ := b
  congr 1
  exact Array.toList_inj.1 h
theorem dropS_0 (s : ByteArray) : dropS s 0 = s := ba_eq (by rw [dropS_data]; rfl)
theorem dropS_drop (s : ByteArray) (k j : Nat) : dropS (dropS s k) j = dropS s (k + j) := ba_eq (by rw [dropS_data, dropS_data, dropS_data, List.drop_drop])
theorem dropS_nil {s : ByteArray} {k : Nat} (h : s.size ≤ k) : dropS s k = nilS := toList_nil (by rw [dropS_size]; omega)
theorem bAt_get (s : ByteArray) (i : Nat) : bAt s i = match s.data.toList[i]? with | some b => b.toNat | none => 256 := by
  have h : s.data.toList.length = s.size := by simp
  by_cases c : i < s.size
  · rw [bAt_in c, List.getElem?_eq_getElem (by omega)]
    simp only [Array.getElem_toList]
    rfl
  · rw [bAt_out c, List.getElem?_eq_none (by omega)]
theorem bAt_drop (s : ByteArray) (k i : Nat) : bAt (dropS s k) i = bAt s (k + i) := by rw [bAt_get, bAt_get, dropS_data, List.getElem?_drop]
theorem run_drop {p : Nat → Bool} (hp : p 256 = false) (s : ByteArray) (k : Nat) : runK p (dropS s k) 0 = runK p s k - k := by
  have hg := runK_ge p s k
  refine runK_is hp (Nat.zero_le _) ?_ fun i _ h => ?_
  · rw [bAt_drop, show k + (runK p s k - k) = runK p s k by omega]
    exact runK_end p hp s k
  · rw [bAt_drop]
    exact runK_all (Nat.le_add_right _ _) (by omega)
theorem word_drop (s : ByteArray) (k : Nat) : wordK (dropS s k) 0 = wordK s k - k := run_drop (by decide) s k
theorem blk_has (b : UInt8) : ([32, 9, 10] : List UInt8).contains b = isBlk b.toNat := by
  have e : ∀ c : UInt8, (b == c) = decide (b.toNat = c.toNat) := fun c => by
    rw [Bool.eq_iff_iff]
    simp [UInt8.toNat_inj]
  simp only [List.contains_cons, List.contains_nil, e, isBlk, Bool.or_false]
  simp [Bool.or_assoc]
/-- Blanks passed over. -/
theorem trim_drop (s : ByteArray) (k : Nat) (h : k ≤ s.size) : (⟨(Lib.trimLeftS (dropS s k).data.toList [32, 9, 10]).toArray⟩ : ByteArray) = dropS s (skipK s k) := by
  have hg : k ≤ skipK s k := runK_ge isBlk s k
  have hl : skipK s k ≤ s.size := runK_le isBlk s k h
  have hlen : s.data.toList.length = s.size := by simp
  apply ba_eq
  show Lib.trimLeftS _ _ = _
  rw [dropS_data, dropS_data, Lib.trimLeftS_drop (s.data.toList.drop k) [32, 9, 10] (skipK s k - k) (by rw [List.length_drop]; omega), List.drop_drop]
  · congr 1; omega
  · intro j b hj hb
    rw [List.getElem?_drop] at hb
    have := runK_all (p := isBlk) (s := s) (k := k) (i := k + j) (by omega) (by have : skipK s k = runK isBlk s k := rfl; omega)
    rw [bAt_get, hb] at this
    rw [blk_has]
    exact this
  · intro b hb
    rw [List.getElem?_drop, show k + (skipK s k - k) = skipK s k by omega] at hb
    have := runK_end isBlk (by decide) s k
    rw [bAt_get, show runK isBlk s k = skipK s k from rfl, hb] at this
    rw [blk_has]
    exact this
/-- Operators, one after another: the longest that fits. -/
def scanP (l : List UInt8) (b : ByteArray × Nat) : List (List UInt8 × Nat) → ByteArray × Nat
  | [] => b
  | q :: r => scanP l (if Lib.hasPrefix l q.1 && decide (b.1.size < q.1.length) then (⟨q.1.toArray⟩, q.2) else b) r
theorem u8_beq (c a : UInt8) : (c == a) = decide (a.toNat = c.toNat) := by
  rw [Bool.eq_iff_iff]
  simp only [beq_iff_eq, decide_eq_true_eq]
  exact ⟨fun h => by rw [h], fun h => (UInt8.toNat_inj.1 h).symm⟩
theorem pre_one (l : List UInt8) (c : UInt8) (A : Nat) (h : A = match l[0]? with | some b => b.toNat | none => 256) : Lib.hasPrefix l [c] = decide (A = c.toNat) := by
  subst h
  have hc : c.toNat < 256 := c.toNat_lt
  match l with
  | [] =>
    show false = decide (256 = c.toNat)
    rw [decide_eq_false (by omega)]
  | a :: r =>
    show (c == a && true) = decide (a.toNat = c.toNat)
    rw [Bool.and_true, u8_beq]
theorem pre_two (l : List UInt8) (c d : UInt8) (A B : Nat) (h : A = match l[0]? with | some b => b.toNat | none => 256) (k : B = match l[1]? with | some b => b.toNat | none => 256) : Lib.hasPrefix l [c, d] = (decide (A = c.toNat) && decide (B = d.toNat)) := by
  subst h k
  have hc : c.toNat < 256 := c.toNat_lt
  have hd : d.toNat < 256 := d.toNat_lt
  match l with
  | [] =>
    show false = (decide (256 = c.toNat) && decide (256 = d.toNat))
    rw [decide_eq_false (show ¬ 256 = c.toNat by omega)]; rfl
  | [a] =>
    show (c == a && false) = (decide (a.toNat = c.toNat) && decide (256 = d.toNat))
    rw [decide_eq_false (show ¬ 256 = d.toNat by omega), Bool.and_false, Bool.and_false]
  | a :: b :: r =>
    show (c == a && (d == b && true)) = (decide (a.toNat = c.toNat) && decide (b.toNat = d.toNat))
    rw [Bool.and_true, u8_beq, u8_beq]
theorem ext_one (s : ByteArray) (k : Nat) (c : UInt8) (h : bAt s k = c.toNat) : s.extract k (k + 1) = ⟨#[c]⟩ := by
  have hk := bAt_lt (show bAt s k ≠ 256 by rw [h]; have := c.toNat_lt; omega)
  rw [bAt_in hk] at h
  have hc : s[k] = c := UInt8.toNat_inj.1 h
  apply ba_eq
  have h2 : s.data.size = s.size := rfl
  apply List.ext_getElem
  · simp; omega
  · intro i h3 h4
    obtain rfl : i = 0 := by simpa using h4
    simp [← hc]
    rfl
theorem ext_two (s : ByteArray) (k : Nat) (c d : UInt8) (h : bAt s k = c.toNat) (h' : bAt s (k + 1) = d.toNat) : s.extract k (k + 2) = ⟨#[c, d]⟩ := by
  have hk := bAt_lt (show bAt s k ≠ 256 by rw [h]; have := c.toNat_lt; omega)
  have hk' := bAt_lt (show bAt s (k + 1) ≠ 256 by rw [h']; have := d.toNat_lt; omega)
  rw [bAt_in hk] at h
  rw [bAt_in hk'] at h'
  have hc : s[k] = c := UInt8.toNat_inj.1 h
  have hd : s[k + 1] = d := UInt8.toNat_inj.1 h'
  apply ba_eq
  have h2 : s.data.size = s.size := rfl
  apply List.ext_getElem
  · simp; omega
  · intro i h3 h4
    have h5 : i < 2 := by simpa using h4
    match i, h5 with
    | 0, _ => simp [← hc]; rfl
    | 1, _ => simp [← hd]; rfl
theorem ext_nil (s : ByteArray) (k : Nat) : s.extract k k = nilS := toList_nil (by simp)
set_option maxHeartbeats 4000000 in
/-- The longest operator that fits is the one at k. -/
theorem scan_op (s : ByteArray) (k : Nat) : scanP (dropS s k).data.toList (nilS, 0) sgnT = (s.extract k (k + (opK s k).2), (opK s k).1) := by
  obtain ⟨L, hL⟩ : ∃ L, (dropS s k).data.toList = L := ⟨_, rfl⟩
  have g0 : bAt s k = match L[0]? with | some b => b.toNat | none => 256 := by rw [← hL, ← bAt_get, bAt_drop]; rfl
  have g1 : bAt s (k + 1) = match L[1]? with | some b => b.toNat | none => 256 := by rw [← hL, ← bAt_get, bAt_drop]
  have p1 := fun c => pre_one L c _ g0
  have p2 := fun c d => pre_two L c d _ _ g0 g1
  have x0 := ext_nil s k
  have x1 := ext_one s k
  have x2 := ext_two s k
  rw [hL]
  clear hL g0 g1
  unfold opK
  generalize bAt s k = A at *
  generalize bAt s (k + 1) = B at *
  have hA : A = 61 ∨ A = 33 ∨ A = 60 ∨ A = 62 ∨ A = 124 ∨ A = 38 ∨ A = 43 ∨ A = 45 ∨ A = 42 ∨ A = 47 ∨ A = 37 ∨ (A ≠ 61 ∧ A ≠ 33 ∧ A ≠ 60 ∧ A ≠ 62 ∧ A ≠ 124 ∧ A ≠ 38 ∧ A ≠ 43 ∧ A ≠ 45 ∧ A ≠ 42 ∧ A ≠ 47 ∧ A ≠ 37) := by omega
  have hB : B = 61 ∨ B = 60 ∨ B = 62 ∨ (B ≠ 61 ∧ B ≠ 60 ∧ B ≠ 62) := by omega
  have n0 : nilS.size = 0 := rfl
  have n1 : ∀ c : UInt8, (⟨#[c]⟩ : ByteArray).size = 1 := fun _ => rfl
  have n2 : ∀ c d : UInt8, (⟨#[c, d]⟩ : ByteArray).size = 2 := fun _ _ => rfl
  rcases hA with rfl | rfl | rfl | rfl | rfl | rfl | rfl | rfl | rfl | rfl | rfl | ⟨a1, a2, a3, a4, a5, a6, a7, a8, a9, a10, a11⟩ <;> rcases hB with rfl | rfl | rfl | ⟨b1, b2, b3⟩ <;> simp [scanP, sgnT, p1, p2, n0, n1, n2, x0, *]
  all_goals first | rfl | (refine (x1 _ ?_).symm; rfl) | (refine (x2 _ _ ?_ ?_).symm <;> rfl)
end Go.Proofs.YtlilmidffcmkjaaGreatDoor
/- Numbers of a text, plain: against what the library's ParseUint tells. No program in it. -/
namespace Go.Proofs.YtlilmidffcmkjaaGreatDoor
open Go.RowKit
set_option linter.unusedVariables false
set_option linter.unusedSimpArgs false
/-- The digits of a list. -/
def valL (b : Nat) : Nat → List UInt8 → Option Nat
  | a, [] => some a
  | a, c :: r => if digV c.toNat < b then valL b (a * b + digV c.toNat) r else none
theorem valL_ge {b : Nat} (hb : 1 ≤ b) : ∀ (l : List UInt8) (a v : Nat), valL b a l = some v → a ≤ v
  | [], a, v, h => by injection h with h; omega
  | c :: r, a, v, h => by
    rw [valL] at h
    split at h
    · have := valL_ge hb r _ v h
      have : a * 1 ≤ a * b := Nat.mul_le_mul_left a hb
      omega
    · cases h
theorem val_list (s : ByteArray) (b : Nat) : ∀ (f k a : Nat), k + f ≤ s.size → valGo s b f k a = valL b a ((s.data.toList.drop k).take f)
  | 0, k, a, h => rfl
  | f + 1, k, a, h => by
    have hl : s.data.toList.length = s.size := by simp
    have hg : bAt s k = (s.data.toList[k]'(by omega)).toNat := by rw [bAt_get, List.getElem?_eq_getElem (by omega)]
    rw [List.drop_eq_getElem_cons (by omega), List.take_succ_cons, valL, valGo, hg, val_list s b f (k + 1) _ (by omega)]
/-- A number within the bound. -/
def mostO : Option Nat → Option Nat
  | some v => if v ≤ mostN then some v else none
  | none => none
def numO : Lib.NumEnd Nat → Option Nat
  | .ok u => if u ≤ mostN then some u else none
  | _ => none
theorem u64m : (2 : Nat) ^ 64 - 1 = 18446744073709551615 := by decide
theorem parse_ten : ∀ (l : List UInt8) (a : Nat), numO (Lib.parseUintM 18446744073709551615 a l) = mostO (valL 10 a l)
  | [], a => rfl
  | c :: r, a => by
    have hd : digV c.toNat < 10 ↔ 48 ≤ c.toNat ∧ c.toNat ≤ 57 := by
      unfold digV isDig
      by_cases h : 48 ≤ c.toNat ∧ c.toNat ≤ 57
      · rw [if_pos (by simp [h])]; omega
      · rw [if_neg (by simpa using h)]
        split <;> omega
    rw [Lib.parseUintM, valL]
    by_cases h : 48 ≤ c.toNat ∧ c.toNat ≤ 57
    · have hv : digV c.toNat = c.toNat - 48 := by unfold digV isDig; rw [if_pos (by simp [h])]
      rw [if_pos h, if_pos (hd.2 h), hv]
      have key : 18446744073709551615 < a * 10 + (c.toNat - 48) → mostO (valL 10 (a * 10 + (c.toNat - 48)) r) = none := fun hx => by
        cases hv : valL 10 (a * 10 + (c.toNat - 48)) r with
        | none => rfl
        | some v =>
          have := valL_ge (by decide) r _ v hv
          show (if v ≤ mostN then some v else none) = none
          rw [if_neg (by rw [mostN_val]; omega)]
      split
      · rw [key (by omega)]; rfl
      · split
        · rw [key (by omega)]; rfl
        · exact parse_ten r _
    · rw [if_neg h, if_neg (fun x => h (hd.1 x))]; rfl
/-- A hexadecimal digit, as ParseUint takes it. -/
def hexD (c : Nat) : Nat := if 48 ≤ c ∧ c ≤ 57 then c - 48 else if 97 ≤ c ∧ c ≤ 122 then c - 87 else if 65 ≤ c ∧ c ≤ 90 then c - 55 else 99
/-- What no number is told as. -/
abbrev synE : Lib.NumEnd Nat := Lib.parseUint10 0 [0]
def par16 : Nat → List UInt8 → Lib.NumEnd Nat
  | a, [] => .ok a
  | a, c :: r => if 16 ≤ hexD c.toNat then synE else if 1152921504606846976 ≤ a then .range else par16 (a * 16 + hexD c.toNat) r
def upS : List UInt8 := [65, 66, 67, 68, 69, 70]
def hasUp (l : List UInt8) : Bool := Lib.containsAny l upS
theorem up_cons (c : UInt8) (r : List UInt8) : hasUp (c :: r) = (upS.contains c || hasUp r) := by
  unfold hasUp Lib.containsAny
  rw [Lib.indexAny]
  cases upS.contains c with
  | true => rfl
  | false =>
    rw [if_neg (by decide)]
    have := Lib.indexAny_ge upS r
    by_cases h : Lib.indexAny r upS = -1
    · rw [if_pos (by simpa using h), h]; rfl
    · rw [if_neg (by simpa using h)]
      simp
      omega
theorem up_has (c : UInt8) : upS.contains c = (decide (65 ≤ c.toNat) && decide (c.toNat ≤ 70)) := by
  have e : ∀ d : UInt8, (c == d) = decide (c.toNat = d.toNat) := fun d => by
    rw [Bool.eq_iff_iff]
    simp [UInt8.toNat_inj]
  unfold upS
  simp only [List.contains_cons, List.contains_nil, e]
  rw [Bool.eq_iff_iff]
  simp
  omega
theorem parse_hex : ∀ (l : List UInt8) (a : Nat), (if hasUp l then none else numO (par16 a l)) = mostO (valL 16 a l)
  | [], a => rfl
  | c :: r, a => by
    rw [up_cons, up_has, par16, valL]
    by_cases hu : 65 ≤ c.toNat ∧ c.toNat ≤ 70
    · have hv : digV c.toNat = 99 := by
        unfold digV isDig
        rw [if_neg (by simp; omega), if_neg (by omega)]
      rw [hv, if_pos (by simp [hu]), if_neg (by decide)]; rfl
    · have hf : (decide (65 ≤ c.toNat) && decide (c.toNat ≤ 70)) = false := by simp; omega
      rw [hf, Bool.false_or]
      by_cases h16 : 16 ≤ hexD c.toNat
      · have hv : ¬ digV c.toNat < 16 := by
          unfold hexD at h16
          unfold digV isDig
          by_cases hd : 48 ≤ c.toNat ∧ c.toNat ≤ 57
          · rw [if_pos hd] at h16; omega
          · rw [if_neg (by simpa using hd)]
            rw [if_neg hd] at h16
            split
            · rename_i x; rw [if_pos (by omega)] at h16; omega
            · omega
        rw [if_pos h16, if_neg hv]
        split <;> rfl
      · have hv : digV c.toNat = hexD c.toNat := by
          unfold hexD at h16 ⊢
          unfold digV isDig
          by_cases hd : 48 ≤ c.toNat ∧ c.toNat ≤ 57
          · rw [if_pos (by simpa using hd), if_pos hd]
          · rw [if_neg (by simpa using hd), if_neg hd]
            rw [if_neg hd] at h16
            by_cases hl : 97 ≤ c.toNat ∧ c.toNat ≤ 122
            · rw [if_pos hl] at h16 ⊢
              rw [if_pos (by omega)]
            · rw [if_neg hl] at h16 ⊢
              split at h16
              · omega
              · omega
        rw [if_neg h16, hv, if_pos (show hexD c.toNat < 16 by omega)]
        by_cases ha : 1152921504606846976 ≤ a
        · rw [if_pos ha]
          have : mostO (valL 16 (a * 16 + hexD c.toNat) r) = none := by
            cases hv : valL 16 (a * 16 + hexD c.toNat) r with
            | none => rfl
            | some v =>
              have := valL_ge (by decide) r _ v hv
              show (if v ≤ mostN then some v else none) = none
              rw [if_neg (by rw [mostN_val]; omega)]
          rw [this]
          split <;> rfl
        · rw [if_neg ha]
          exact parse_hex r _
/-- What a word says as a number. -/
def numW (d : ByteArray) : Option Nat :=
  if Lib.hasPrefix d.data.toList [48, 120] then (if (d.data.toList.drop 2) = [] then none else mostO (valL 16 0 (d.data.toList.drop 2)))
  else (if d.data.toList = [] then none else mostO (valL 10 0 d.data.toList))
theorem dig_mostO (s : ByteArray) (b k e : Nat) (h : e ≤ s.size) : digN s b k e = if k < e then mostO (valL b 0 ((s.data.toList.drop k).take (e - k))) else none := by
  unfold digN
  by_cases c : k < e
  · rw [if_pos c, if_pos c, val_list s b (e - k) k 0 (by omega)]
    cases valL b 0 ((s.data.toList.drop k).take (e - k)) <;> rfl
  · rw [if_neg c, if_neg c]
theorem ext_data (s : ByteArray) (k e : Nat) : (s.extract k e).data.toList = (s.data.toList.drop k).take (e - k) := by
  have h : s.data.size = s.size := rfl
  simp [ByteArray.extract, ByteArray.copySlice, List.drop_take]
  try omega
/-- A number of a text. -/
theorem num_word (s : ByteArray) (k : Nat) (hk : k ≤ s.size) : numW (s.extract k (wordK s k)) = numK s k (wordK s k) := by
  have hg : k ≤ wordK s k := runK_ge isWrd s k
  have hl : wordK s k ≤ s.size := runK_le isWrd s k hk
  have hall : ∀ i, k ≤ i → i < wordK s k → isWrd (bAt s i) = true := fun i a b => runK_all a b
  have hend : isWrd (bAt s (wordK s k)) = false := runK_end isWrd (by decide) s k
  have hlen : s.data.toList.length = s.size := by simp
  obtain ⟨e, he⟩ : ∃ e, wordK s k = e := ⟨_, rfl⟩
  rw [he] at hg hl hall hend ⊢
  have hb : ∀ i, (i < e - k → ((s.extract k e).data.toList)[i]? = s.data.toList[k + i]?) ∧ (e - k ≤ i → ((s.extract k e).data.toList)[i]? = none) := fun i => by
    rw [ext_data]
    refine ⟨fun h => ?_, fun h => ?_⟩
    · rw [List.getElem?_take_of_lt h, List.getElem?_drop]
    · rw [List.getElem?_eq_none]
      rw [List.length_take]
      omega
  have hp : Lib.hasPrefix (s.extract k e).data.toList [48, 120] = hexB s k := by
    unfold hexB
    by_cases c2 : k + 1 < e
    · rw [pre_two _ 48 120 (bAt s k) (bAt s (k + 1)) (by rw [(hb 0).1 (by omega), bAt_get]; rfl) (by rw [(hb 1).1 (by omega), bAt_get])]
      rfl
    · have n1 : ¬ (bAt s k = 48 ∧ bAt s (k + 1) = 120) := fun ⟨h1, h2⟩ => by
        rcases Nat.lt_or_ge k e with c | c
        · obtain rfl : e = k + 1 := by omega
          rw [h2] at hend
          exact absurd hend (by decide)
        · obtain rfl : e = k := by omega
          rw [h1] at hend
          exact absurd hend (by decide)
      have n2 : ¬ 2 ≤ (s.extract k e).data.toList.length := by rw [ext_data, List.length_take]; omega
      have e1 : Lib.hasPrefix (s.extract k e).data.toList [48, 120] = false := by
        rw [Bool.eq_false_iff]
        intro h
        have := (List.isPrefixOf_iff_prefix.1 h).length_le
        exact n2 this
      rw [e1]
      symm
      rw [Bool.eq_false_iff]
      intro h
      simp at h
      exact n1 h
  unfold numW numK
  rw [hp]
  cases hx : hexB s k with
  | true =>
    have h2 : k + 2 ≤ e := by
      unfold hexB at hx
      simp at hx
      rcases Nat.lt_or_ge (k + 1) e with c | c
      · omega
      · rcases Nat.lt_or_ge k e with c' | c'
        · obtain rfl : e = k + 1 := by omega
          rw [hx.2] at hend
          exact absurd hend (by decide)
        · obtain rfl : e = k := by omega
          rw [hx.1] at hend
          exact absurd hend (by decide)
    rw [if_pos rfl, if_pos rfl, dig_mostO s 16 (k + 2) e hl, ext_data, List.drop_take, List.drop_drop]
    by_cases c : k + 2 < e
    · rw [if_pos c, if_neg (by intro h; have := congrArg List.length h; rw [List.length_take, List.length_drop] at this; simp at this; omega), show e - k - 2 = e - (k + 2) by omega]
    · rw [if_neg c, if_pos (by rw [show e - k - 2 = 0 by omega]; rfl)]
  | false =>
    rw [if_neg Bool.false_ne_true, if_neg Bool.false_ne_true, dig_mostO s 10 k e hl, ext_data]
    by_cases c : k < e
    · rw [if_pos c, if_neg (by intro h; have := congrArg List.length h; rw [List.length_take, List.length_drop] at this; simp at this; omega)]
    · rw [if_neg c, if_pos (by rw [show e - k = 0 by omega]; rfl)]
end Go.Proofs.YtlilmidffcmkjaaGreatDoor
