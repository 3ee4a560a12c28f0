/- Numbers of a text, plain: against what the library's ParseUint tells. No program in it. -/
import Derived.Test.YtlilmidffcmkjaaDoorPrsA
import Derived.Lib.ParseIntB
import Derived.Lib.IndexAny
namespace Go.Proofs.YtlilmidffcmkjaaDoor
open Go.RowKit
set_option linter.unusedVariables false
set_option linter.unusedSimpArgs false
/-- The digits of a list. -/
def valL (b : Nat) : Nat → List UInt8 → Option Nat
  | a, [] => some a
  | a, c :: r => if digV c.toNat < b then valL b (a * b + digV c.toNat) r else none
theorem valL_ge {b : Nat} (hb : 1 ≤ b) : ∀ (l : List UInt8) (a v : Nat), valL b a l = some v → a ≤ v
  | [], a, v, h => by injection h with h; omega
  | c :: r, a, v, h => by
    rw [valL] at h
    split at h
    · have := valL_ge hb r _ v h
      have : a * 1 ≤ a * b := Nat.mul_le_mul_left a hb
      omega
    · cases h
theorem val_list (s : ByteArray) (b : Nat) : ∀ (f k a : Nat), k + f ≤ s.size → valGo s b f k a = valL b a ((s.data.toList.drop k).take f)
  | 0, k, a, h => rfl
  | f + 1, k, a, h => by
    have hl : s.data.toList.length = s.size := by simp
    have hg : bAt s k = (s.data.toList[k]'(by omega)).toNat := by rw [bAt_get, List.getElem?_eq_getElem (by omega)]
    rw [List.drop_eq_getElem_cons (by omega), List.take_succ_cons, valL, valGo, hg, val_list s b f (k + 1) _ (by omega)]
/-- A number within the bound. -/
def mostO : Option Nat → Option Nat
  | some v => if v ≤ mostN then some v else none
  | none => none
def numO : Lib.NumEnd Nat → Option Nat
  | .ok u => if u ≤ mostN then some u else none
  | _ => none
theorem u64m : (2 : Nat) ^ 64 - 1 = 18446744073709551615 := by decide
theorem parse_ten : ∀ (l : List UInt8) (a : Nat), numO (Lib.parseUintM 18446744073709551615 a l) = mostO (valL 10 a l)
  | [], a => rfl
  | c :: r, a => by
    have hd : digV c.toNat < 10 ↔ 48 ≤ c.toNat ∧ c.toNat ≤ 57 := by
      unfold digV isDig
      by_cases h : 48 ≤ c.toNat ∧ c.toNat ≤ 57
      · rw [if_pos (by simp [h])]; omega
      · rw [if_neg (by simpa using h)]
        split <;> omega
    rw [Lib.parseUintM, valL]
    by_cases h : 48 ≤ c.toNat ∧ c.toNat ≤ 57
    · have hv : digV c.toNat = c.toNat - 48 := by unfold digV isDig; rw [if_pos (by simp [h])]
      rw [if_pos h, if_pos (hd.2 h), hv]
      have key : 18446744073709551615 < a * 10 + (c.toNat - 48) → mostO (valL 10 (a * 10 + (c.toNat - 48)) r) = none := fun hx => by
        cases hv : valL 10 (a * 10 + (c.toNat - 48)) r with
        | none => rfl
        | some v =>
          have := valL_ge (by decide) r _ v hv
          show (if v ≤ mostN then some v else none) = none
          rw [if_neg (by rw [mostN_val]; omega)]
      split
      · rw [key (by omega)]; rfl
      · split
        · rw [key (by omega)]; rfl
        · exact parse_ten r _
    · rw [if_neg h, if_neg (fun x => h (hd.1 x))]; rfl
/-- A hexadecimal digit, as ParseUint takes it. -/
def hexD (c : Nat) : Nat := if 48 ≤ c ∧ c ≤ 57 then c - 48 else if 97 ≤ c ∧ c ≤ 122 then c - 87 else if 65 ≤ c ∧ c ≤ 90 then c - 55 else 99
def par16 : Nat → List UInt8 → Lib.NumEnd Nat
  | a, [] => .ok a
  | a, c :: r => if 16 ≤ hexD c.toNat then .syntax else if 1152921504606846976 ≤ a then .range else par16 (a * 16 + hexD c.toNat) r
def upS : List UInt8 := [65, 66, 67, 68, 69, 70]
def hasUp (l : List UInt8) : Bool := Lib.containsAny l upS
theorem up_cons (c : UInt8) (r : List UInt8) : hasUp (c :: r) = (upS.contains c || hasUp r) := by
  unfold hasUp Lib.containsAny
  rw [Lib.indexAny]
  cases upS.contains c with
  | true => rfl
  | false =>
    rw [if_neg (by decide)]
    have := Lib.indexAny_ge upS r
    by_cases h : Lib.indexAny r upS = -1
    · rw [if_pos (by simpa using h), h]; rfl
    · rw [if_neg (by simpa using h)]
      simp
      omega
theorem up_has (c : UInt8) : upS.contains c = (decide (65 ≤ c.toNat) && decide (c.toNat ≤ 70)) := by
  have e : ∀ d : UInt8, (c == d) = decide (c.toNat = d.toNat) := fun d => by
    rw [Bool.eq_iff_iff]
    simp [UInt8.toNat_inj]
  unfold upS
  simp only [List.contains_cons, List.contains_nil, e]
  rw [Bool.eq_iff_iff]
  simp
  omega
theorem parse_hex : ∀ (l : List UInt8) (a : Nat), (if hasUp l then none else numO (par16 a l)) = mostO (valL 16 a l)
  | [], a => rfl
  | c :: r, a => by
    rw [up_cons, up_has, par16, valL]
    by_cases hu : 65 ≤ c.toNat ∧ c.toNat ≤ 70
    · have hv : digV c.toNat = 99 := by
        unfold digV isDig
        rw [if_neg (by simp; omega), if_neg (by omega)]
      rw [hv, if_pos (by simp [hu]), if_neg (by decide)]; rfl
    · have hf : (decide (65 ≤ c.toNat) && decide (c.toNat ≤ 70)) = false := by simp; omega
      rw [hf, Bool.false_or]
      by_cases h16 : 16 ≤ hexD c.toNat
      · have hv : ¬ digV c.toNat < 16 := by
          unfold hexD at h16
          unfold digV isDig
          by_cases hd : 48 ≤ c.toNat ∧ c.toNat ≤ 57
          · rw [if_pos hd] at h16; omega
          · rw [if_neg (by simpa using hd)]
            rw [if_neg hd] at h16
            split
            · rename_i x; rw [if_pos (by omega)] at h16; omega
            · omega
        rw [if_pos h16, if_neg hv]
        split <;> rfl
      · have hv : digV c.toNat = hexD c.toNat := by
          unfold hexD at h16 ⊢
          unfold digV isDig
          by_cases hd : 48 ≤ c.toNat ∧ c.toNat ≤ 57
          · rw [if_pos (by simpa using hd), if_pos hd]
          · rw [if_neg (by simpa using hd), if_neg hd]
            rw [if_neg hd] at h16
            by_cases hl : 97 ≤ c.toNat ∧ c.toNat ≤ 122
            · rw [if_pos hl] at h16 ⊢
              rw [if_pos (by omega)]
            · rw [if_neg hl] at h16 ⊢
              split at h16
              · omega
              · omega
        rw [if_neg h16, hv, if_pos (show hexD c.toNat < 16 by omega)]
        by_cases ha : 1152921504606846976 ≤ a
        · rw [if_pos ha]
          have : mostO (valL 16 (a * 16 + hexD c.toNat) r) = none := by
            cases hv : valL 16 (a * 16 + hexD c.toNat) r with
            | none => rfl
            | some v =>
              have := valL_ge (by decide) r _ v hv
              show (if v ≤ mostN then some v else none) = none
              rw [if_neg (by rw [mostN_val]; omega)]
          rw [this]
          split <;> rfl
        · rw [if_neg ha]
          exact parse_hex r _
/-- What a word says as a number. -/
def numW (d : ByteArray) : Option Nat :=
  if Lib.hasPrefix d.data.toList [48, 120] then (if (d.data.toList.drop 2) = [] then none else mostO (valL 16 0 (d.data.toList.drop 2)))
  else (if d.data.toList = [] then none else mostO (valL 10 0 d.data.toList))
theorem dig_mostO (s : ByteArray) (b k e : Nat) (h : e ≤ s.size) : digN s b k e = if k < e then mostO (valL b 0 ((s.data.toList.drop k).take (e - k))) else none := by
  unfold digN
  by_cases c : k < e
  · rw [if_pos c, if_pos c, val_list s b (e - k) k 0 (by omega)]
    cases valL b 0 ((s.data.toList.drop k).take (e - k)) <;> rfl
  · rw [if_neg c, if_neg c]
theorem ext_data (s : ByteArray) (k e : Nat) : (s.extract k e).data.toList = (s.data.toList.drop k).take (e - k) := by
  have h : s.data.size = s.size := rfl
  simp [ByteArray.extract, ByteArray.copySlice, List.drop_take]
  try omega
/-- A number of a text. -/
theorem num_word (s : ByteArray) (k : Nat) (hk : k ≤ s.size) : numW (s.extract k (wordK s k)) = numK s k (wordK s k) := by
  have hg : k ≤ wordK s k := runK_ge isWrd s k
  have hl : wordK s k ≤ s.size := runK_le isWrd s k hk
  have hall : ∀ i, k ≤ i → i < wordK s k → isWrd (bAt s i) = true := fun i a b => runK_all a b
  have hend : isWrd (bAt s (wordK s k)) = false := runK_end isWrd (by decide) s k
  have hlen : s.data.toList.length = s.size := by simp
  obtain ⟨e, he⟩ : ∃ e, wordK s k = e := ⟨_, rfl⟩
  rw [he] at hg hl hall hend ⊢
  have hb : ∀ i, (i < e - k → ((s.extract k e).data.toList)[i]? = s.data.toList[k + i]?) ∧ (e - k ≤ i → ((s.extract k e).data.toList)[i]? = none) := fun i => by
    rw [ext_data]
    refine ⟨fun h => ?_, fun h => ?_⟩
    · rw [List.getElem?_take_of_lt h, List.getElem?_drop]
    · rw [List.getElem?_eq_none]
      rw [List.length_take]
      omega
  have hp : Lib.hasPrefix (s.extract k e).data.toList [48, 120] = hexB s k := by
    unfold hexB
    by_cases c2 : k + 1 < e
    · rw [pre_two _ 48 120 (bAt s k) (bAt s (k + 1)) (by rw [(hb 0).1 (by omega), bAt_get]; rfl) (by rw [(hb 1).1 (by omega), bAt_get])]
      rfl
    · have n1 : ¬ (bAt s k = 48 ∧ bAt s (k + 1) = 120) := fun ⟨h1, h2⟩ => by
        rcases Nat.lt_or_ge k e with c | c
        · obtain rfl : e = k + 1 := by omega
          rw [h2] at hend
          exact absurd hend (by decide)
        · obtain rfl : e = k := by omega
          rw [h1] at hend
          exact absurd hend (by decide)
      have n2 : ¬ 2 ≤ (s.extract k e).data.toList.length := by rw [ext_data, List.length_take]; omega
      have e1 : Lib.hasPrefix (s.extract k e).data.toList [48, 120] = false := by
        rw [Bool.eq_false_iff]
        intro h
        have := (List.isPrefixOf_iff_prefix.1 h).length_le
        exact n2 this
      rw [e1]
      symm
      rw [Bool.eq_false_iff]
      intro h
      simp at h
      exact n1 h
  unfold numW numK
  rw [hp]
  cases hx : hexB s k with
  | true =>
    have h2 : k + 2 ≤ e := by
      unfold hexB at hx
      simp at hx
      rcases Nat.lt_or_ge (k + 1) e with c | c
      · omega
      · rcases Nat.lt_or_ge k e with c' | c'
        · obtain rfl : e = k + 1 := by omega
          rw [hx.2] at hend
          exact absurd hend (by decide)
        · obtain rfl : e = k := by omega
          rw [hx.1] at hend
          exact absurd hend (by decide)
    rw [if_pos rfl, if_pos rfl, dig_mostO s 16 (k + 2) e hl, ext_data, List.drop_take, List.drop_drop]
    by_cases c : k + 2 < e
    · rw [if_pos c, if_neg (by intro h; have := congrArg List.length h; rw [List.length_take, List.length_drop] at this; simp at this; omega), show e - k - 2 = e - (k + 2) by omega]
    · rw [if_neg c, if_pos (by rw [show e - k - 2 = 0 by omega]; rfl)]
  | false =>
    rw [if_neg Bool.false_ne_true, if_neg Bool.false_ne_true, dig_mostO s 10 k e hl, ext_data]
    by_cases c : k < e
    · rw [if_pos c, if_neg (by intro h; have := congrArg List.length h; rw [List.length_take, List.length_drop] at this; simp at this; omega)]
    · rw [if_neg c, if_pos (by rw [show e - k = 0 by omega]; rfl)]
end Go.Proofs.YtlilmidffcmkjaaDoor
