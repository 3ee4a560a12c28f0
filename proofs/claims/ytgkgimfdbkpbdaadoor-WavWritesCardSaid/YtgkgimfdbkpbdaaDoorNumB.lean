/- Plain: a number that was written is read as it was. No program in it. -/
import Derived.Test.YtgkgimfdbkpbdaaDoorWinI
namespace Go.Proofs.YtgkgimfdbkpbdaaDoor
open Go.RowKit
set_option linter.unusedVariables false
theorem str_size (d : Nat) (f : Nat → Int) : (⟨(strOf d f).toArray⟩ : ByteArray).size = d := by
  show (strOf d f).toArray.size = d
  simp [strOf_len]
theorem str_bt (d : Nat) (f : Nat → Int) (j : Nat) (hj : j < d) (h0 : 0 ≤ f j) (h1 : f j < 256) : (bt ⟨(strOf d f).toArray⟩ j : Int) = f j := by
  have hl := str_size d f
  rw [bt_eq _ j (by omega)]
  show (((strOf d f).toArray[j]'(by simp [strOf_len, hj])).toNat : Int) = f j
  simp [strOf]
  omega
theorem bytesS_size (m d : Nat) (big : Bool) : (bytesS m d big).size = d := str_size d _
theorem bytesS_bt (m d : Nat) (big : Bool) (j : Nat) (hj : j < d) : bt (bytesS m d big) j = m / 2 ^ (8 * (if big then d - 1 - j else j)) % 256 := by
  have h := str_bt d (byteAt m d big) j hj (byteAt_bd m d big j).1 (byteAt_bd m d big j).2
  have e : (bt (bytesS m d big) j : Int) = byteAt m d big j := h
  unfold byteAt at e
  have e2 : (m : Int) / 2 ^ (8 * (if big then d - 1 - j else j)) % 256 = ((m / 2 ^ (8 * (if big then d - 1 - j else j)) % 256 : Nat) : Int) := by
    rw [shr_cast]
    rfl
  rw [e2] at e
  exact Int.ofNat.inj e
theorem horn_digits (m d : Nat) (hm : m < 256 ^ d) : ∀ k, k ≤ d → horn (fun i => m / 2 ^ (8 * (d - 1 - i)) % 256) k = m / 256 ^ (d - k) := by
  intro k
  induction k with
  | zero => intro _; rw [Nat.sub_zero, Nat.div_eq_of_lt hm]; rfl
  | succ k ih =>
    intro hk
    rw [horn, ih (by omega)]
    have e1 : (2 : Nat) ^ (8 * (d - 1 - k)) = 256 ^ (d - (k + 1)) := by
      rw [show (256 : Nat) = 2 ^ 8 from rfl, ← Nat.pow_mul, show 8 * (d - 1 - k) = 8 * (d - (k + 1)) by omega]
    have e2 : 256 ^ (d - k) = 256 ^ (d - (k + 1)) * 256 := by rw [← Nat.pow_succ, show d - k = d - (k + 1) + 1 by omega]
    rw [e1, e2, ← Nat.div_div_eq_div_mul]
    omega
theorem bt_append_left (a b : ByteArray) (j : Nat) (hj : j < a.size) : bt (a ++ b) j = bt a j := by
  rw [bt_eq _ j (by rw [ByteArray.size_append]; omega), bt_eq a j hj]
  rw [ByteArray.getElem_append_left hj]
theorem bt_append_right (a b : ByteArray) (j : Nat) (hj : j < b.size) : bt (a ++ b) (a.size + j) = bt b j := by
  rw [bt_eq _ _ (by rw [ByteArray.size_append]; omega), bt_eq b j hj]
  rw [ByteArray.getElem_append_right (by omega)]
  simp
theorem num_back (m d : Nat) (big : Bool) (a b : ByteArray) (hm : m / 2 ^ (8 * d) = 0) : numAt (a ++ bytesS m d big ++ b) a.size d big = m := by
  have hm2 : m < 256 ^ d := by
    have e : (256 : Nat) ^ d = 2 ^ (8 * d) := by rw [show (256 : Nat) = 2 ^ 8 from rfl, ← Nat.pow_mul]
    rw [e]
    exact (Nat.div_eq_zero_iff.1 hm).resolve_left (by have := Nat.two_pow_pos (8 * d); omega)
  have h := horn_digits m d hm2 d (by omega)
  rw [Nat.sub_self, Nat.pow_zero, Nat.div_one] at h
  rw [numAt, ← h]
  have key : ∀ j, j < d → bt (a ++ bytesS m d big ++ b) (a.size + j) = m / 2 ^ (8 * (if big then d - 1 - j else j)) % 256 := fun j hj => by
    have hz := bytesS_size m d big
    rw [bt_append_left _ _ _ (by rw [ByteArray.size_append]; omega), bt_append_right _ _ _ (by omega), bytesS_bt _ _ _ _ hj]
  refine horn_congr d fun i hi => ?_
  rw [h]
  cases big
  · rw [dig, if_neg (by decide), show a.size + d - 1 - i = a.size + (d - 1 - i) by omega, key (d - 1 - i) (by omega), if_neg (by decide)]
  · rw [dig, if_pos rfl, key i hi, if_pos rfl]
theorem ba_ext {a b : ByteArray} (h : a.data.toList = b.data.toList) : a = b := ByteArray.ext (Array.toList_inj.1 h)
theorem ext_list (s : ByteArray) (k e : Nat) : (s.extract k e).data.toList = (s.data.toList.drop k).take (e - k) := by simp [ByteArray.data_extract]
theorem app_list (a b : ByteArray) : (a ++ b).data.toList = a.data.toList ++ b.data.toList := by simp
theorem size_list (a : ByteArray) : a.size = a.data.toList.length := by simp
theorem ext_mid (a b c : ByteArray) (k n : Nat) (hk : k = a.size) (h : n = a.size + b.size) : (a ++ b ++ c).extract k n = b := by
  subst hk h
  apply ba_ext
  rw [ext_list, app_list, app_list, size_list, size_list, List.append_assoc, List.drop_left, Nat.add_sub_cancel_left, List.take_left]
theorem ext_pre (a b : ByteArray) (n : Nat) (h : n = a.size) : (a ++ b).extract 0 n = a := by
  subst h
  apply ba_ext
  rw [ext_list, app_list, size_list, List.drop_zero, Nat.sub_zero, List.take_left]
theorem ext_ext (s : ByteArray) (p a b : Nat) (hb : p + b ≤ s.size) : (s.extract p s.size).extract a b = s.extract (p + a) (p + b) := by
  apply ba_ext
  rw [ext_list, ext_list, ext_list, List.drop_take, List.take_take, List.drop_drop]
  congr 1
  omega
theorem ext_rest (s : ByteArray) (p a : Nat) (hp : p ≤ s.size) : (s.extract p s.size).extract a (s.extract p s.size).size = s.extract (p + a) s.size := by
  have h : (s.extract p s.size).size = s.size - p := by simp
  rw [h, ext_ext _ _ _ _ (by omega), show p + (s.size - p) = s.size by omega]
theorem rest_size (s : ByteArray) (p : Nat) : (s.extract p s.size).size = s.size - p := by simp
theorem bt_rest (s : ByteArray) (p i : Nat) (h : p + i < s.size) : bt (s.extract p s.size) i = bt s (p + i) := by
  have e : s.extract p s.size = s.extract p (p + (s.size - p)) := by congr 1; omega
  rw [e]
  exact bt_extract s p (s.size - p) i (by omega) (by omega)
theorem num_rest (s : ByteArray) (p a d : Nat) (big : Bool) (h : p + a + d ≤ s.size) : numAt (s.extract p s.size) a d big = numAt s (p + a) d big := by
  unfold numAt
  refine horn_congr d fun i hi => ?_
  cases big
  · rw [dig, dig, if_neg (by decide), if_neg (by decide), bt_rest _ _ _ (by omega), show p + (a + d - 1 - i) = p + a + d - 1 - i by omega]
  · rw [dig, dig, if_pos rfl, if_pos rfl, bt_rest _ _ _ (by omega), show p + (a + i) = p + a + i by omega]
theorem num_lt (s : ByteArray) (p d : Nat) (big : Bool) : numAt s p d big < 256 ^ d := horn_lt _ (dig_lt s p d big) d
end Go.Proofs.YtgkgimfdbkpbdaaDoor
