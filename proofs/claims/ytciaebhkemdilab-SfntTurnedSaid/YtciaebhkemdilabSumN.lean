/- Plain facts on Adler's sum, a font's words' sum and a TAR header's, as functions of a text's bytes. No program in them. -/
import Derived.Test.YtciaebhkemdilabSumM
namespace Go.Proofs.Ytciaebhkemdilab

/-- A text's byte. -/
def byt (s : ByteArray) (k : Nat) : Nat := (s.data.toList.getD k 0).toNat
theorem byt_lt (s : ByteArray) (k : Nat) : byt s k < 256 := UInt8.toNat_lt _
theorem byt_at (s : ByteArray) (k : Nat) (h : k < s.size) : byt s k = s[k].toNat := by
  have hl : k < s.data.toList.length := by simpa using h
  unfold byt; rw [List.getD_eq_getElem?_getD, List.getElem?_eq_getElem hl]; rfl

def adX (x : Nat) (s : ByteArray) : Nat → Nat
  | 0 => x
  | k + 1 => (adX x s k + byt s k) % 65521
def adY (x y : Nat) (s : ByteArray) : Nat → Nat
  | 0 => y
  | k + 1 => (adY x y s k + adX x s (k + 1)) % 65521
theorem adX_lt {x : Nat} (h : x < 65521) (s : ByteArray) (k : Nat) : adX x s k < 65521 := by
  cases k with
  | zero => exact h
  | succ k => exact Nat.mod_lt _ (by decide)
theorem adY_lt {x y : Nat} (h : y < 65521) (s : ByteArray) (k : Nat) : adY x y s k < 65521 := by
  cases k with
  | zero => exact h
  | succ k => exact Nat.mod_lt _ (by decide)
theorem adX_succ (x : Nat) (s : ByteArray) (k : Nat) : adX x s (k + 1) = (adX x s k + byt s k) % 65521 := rfl
theorem adY_succ (x y : Nat) (s : ByteArray) (k : Nat) : adY x y s (k + 1) = (adY x y s k + adX x s (k + 1)) % 65521 := rfl
def adlN (a : Nat) (s : ByteArray) : Nat := 65536 * adY (a % 65536 % 65521) (a / 65536 % 65521) s s.size + adX (a % 65536 % 65521) s s.size
theorem adlN_lt (a : Nat) (s : ByteArray) : adlN a s < 4294967296 := by
  have h1 := adX_lt (x := a % 65536 % 65521) (Nat.mod_lt _ (by decide)) s s.size
  have h2 := adY_lt (x := a % 65536 % 65521) (y := a / 65536 % 65521) (Nat.mod_lt _ (by decide)) s s.size
  unfold adlN; omega

/-- The sum of a font's words, of the first k bytes. -/
def wrdN (s : ByteArray) : Nat → Nat
  | 0 => 0
  | k + 1 => (wrdN s k + byt s k * 2 ^ (24 - k % 4 * 8)) % 4294967296
theorem wrdN_lt (s : ByteArray) (k : Nat) : wrdN s k < 4294967296 := by
  cases k with
  | zero => exact Nat.zero_lt_succ _
  | succ k => exact Nat.mod_lt _ (by decide)
theorem wrdN_succ (s : ByteArray) (k : Nat) : wrdN s (k + 1) = (wrdN s k + byt s k * 2 ^ (24 - k % 4 * 8)) % 4294967296 := rfl

/-- The sum of a header's bytes, of the first k. -/
def tarN (s : ByteArray) : Nat → Nat
  | 0 => 0
  | k + 1 => tarN s k + (if 148 ≤ k ∧ k < 156 then 32 else byt s k)
theorem tarN_succ (s : ByteArray) (k : Nat) : tarN s (k + 1) = tarN s k + (if 148 ≤ k ∧ k < 156 then 32 else byt s k) := rfl
def tarT (s : ByteArray) : Nat := tarN s 512
theorem tarT_eq (s : ByteArray) (k : Nat) (h : k = 512) : tarT s = tarN s k := by rw [h, tarT]
theorem tarN_le (s : ByteArray) (k : Nat) : tarN s k ≤ 255 * k := by
  induction k with
  | zero => exact Nat.le_refl _
  | succ k ih => have := byt_lt s k; unfold tarN; split <;> omega

/-- Two texts, one behind the other. -/
theorem byt_left (s t : ByteArray) (k : Nat) (h : k < s.size) : byt (s ++ t) k = byt s k := by
  unfold byt
  rw [ByteArray.data_append, Array.toList_append, List.getD_eq_getElem?_getD, List.getD_eq_getElem?_getD, List.getElem?_append_left (by simpa using h)]
theorem byt_right (s t : ByteArray) (k : Nat) : byt (s ++ t) (s.size + k) = byt t k := by
  unfold byt
  rw [ByteArray.data_append, Array.toList_append, List.getD_eq_getElem?_getD, List.getD_eq_getElem?_getD, List.getElem?_append_right (by simp)]
  simp
theorem adX_left (x : Nat) (s t : ByteArray) (k : Nat) (h : k ≤ s.size) : adX x (s ++ t) k = adX x s k := by
  induction k with
  | zero => rfl
  | succ k ih => rw [adX_succ, adX_succ, ih (by omega), byt_left s t k (by omega)]
theorem adY_left (x y : Nat) (s t : ByteArray) (k : Nat) (h : k ≤ s.size) : adY x y (s ++ t) k = adY x y s k := by
  induction k with
  | zero => rfl
  | succ k ih => rw [adY_succ, adY_succ, ih (by omega), adX_left x s t (k + 1) h]
theorem adX_right (x : Nat) (s t : ByteArray) (k : Nat) : adX x (s ++ t) (s.size + k) = adX (adX x s s.size) t k := by
  induction k with
  | zero => exact adX_left x s t _ (Nat.le_refl _)
  | succ k ih => rw [← Nat.add_assoc, adX_succ, adX_succ, ih, byt_right]
theorem adY_right (x y : Nat) (s t : ByteArray) (k : Nat) : adY x y (s ++ t) (s.size + k) = adY (adX x s s.size) (adY x y s s.size) t k := by
  induction k with
  | zero => exact adY_left x y s t _ (Nat.le_refl _)
  | succ k ih => rw [← Nat.add_assoc, adY_succ, adY_succ, ih, Nat.add_assoc, adX_right]
theorem adlN_append (a : Nat) (s t : ByteArray) : adlN a (s ++ t) = adlN (adlN a s) t := by
  have h1 := adX_lt (x := a % 65536 % 65521) (Nat.mod_lt _ (by decide)) s s.size
  have h2 := adY_lt (x := a % 65536 % 65521) (y := a / 65536 % 65521) (Nat.mod_lt _ (by decide)) s s.size
  have e1 : adlN a s % 65536 % 65521 = adX (a % 65536 % 65521) s s.size := by unfold adlN; omega
  have e2 : adlN a s / 65536 % 65521 = adY (a % 65536 % 65521) (a / 65536 % 65521) s s.size := by unfold adlN; omega
  unfold adlN at e1 e2 ⊢
  rw [e1, e2, ByteArray.size_append, adX_right, adY_right]
theorem wrdN_left (s t : ByteArray) (k : Nat) (h : k ≤ s.size) : wrdN (s ++ t) k = wrdN s k := by
  induction k with
  | zero => rfl
  | succ k ih => rw [wrdN_succ, wrdN_succ, ih (by omega), byt_left s t k (by omega)]
theorem wrdN_right (s t : ByteArray) (h4 : s.size % 4 = 0) (k : Nat) : wrdN (s ++ t) (s.size + k) = (wrdN s s.size + wrdN t k) % 4294967296 := by
  induction k with
  | zero => rw [Nat.add_zero, wrdN_left s t _ (Nat.le_refl _)]; have := wrdN_lt s s.size; show _ = (wrdN s s.size + 0) % _; omega
  | succ k ih =>
    rw [← Nat.add_assoc, wrdN_succ, wrdN_succ, ih, byt_right, show (s.size + k) % 4 = k % 4 by omega]
    generalize byt t k * 2 ^ (24 - k % 4 * 8) = x
    omega
theorem wrdN_append (s t : ByteArray) (h4 : s.size % 4 = 0) : wrdN (s ++ t) (s ++ t).size = (wrdN s s.size + wrdN t t.size) % 4294967296 := by
  rw [ByteArray.size_append, wrdN_right s t h4]

/-- The register over the first k of a row of bytes. -/
def crcB (r : Nat) (f : Nat → Nat) : Nat → Nat
  | 0 => r
  | k + 1 => crcF8 (crcB r f k ^^^ f k)
theorem crcB_succ (r : Nat) (f : Nat → Nat) (k : Nat) : crcB r f (k + 1) = crcF8 (crcB r f k ^^^ f k) := rfl
theorem crcB_congr {r : Nat} {f g : Nat → Nat} {k : Nat} (h : ∀ i, i < k → f i = g i) : crcB r f k = crcB r g k := by
  induction k with
  | zero => rfl
  | succ k ih => rw [crcB_succ, crcB_succ, ih fun i hi => h i (by omega), h k (by omega)]
theorem crcR_take (r : Nat) (s : ByteArray) (k : Nat) (hk : k ≤ s.size) : crcR r (s.data.toList.take k) = crcB r (byt s) k := by
  induction k with
  | zero => rfl
  | succ k ih =>
    have hl : k < s.data.toList.length := by have : s.data.toList.length = s.size := by simp
                                             omega
    rw [List.take_succ_eq_append_getElem hl, crcR_snoc, ih (by omega)]
    rw [crcB_succ, show byt s k = (s.data.toList[k]'hl).toNat from byt_at s k (by omega)]
theorem moreN_byt (c : Nat) (s : ByteArray) : moreN c s.data.toList = crcI (crcB (crcI c) (byt s) s.size) := by
  unfold moreN
  rw [← crcR_take _ s s.size (Nat.le_refl _), List.take_of_length_le (by simp)]
theorem crcB_xor3 (ra rb rc : Nat) (fa fb fc : Nat → Nat) (k : Nat) : crcB (ra ^^^ rb ^^^ rc) (fun i => fa i ^^^ fb i ^^^ fc i) k = crcB ra fa k ^^^ crcB rb fb k ^^^ crcB rc fc k := by
  induction k with
  | zero => rfl
  | succ k ih =>
    rw [crcB_succ, crcB_succ, crcB_succ, crcB_succ, ih, xor4 (crcB ra fa k ^^^ crcB rb fb k) (crcB rc fc k) (fa k ^^^ fb k) (fc k), xor4 (crcB ra fa k) (crcB rb fb k) (fa k) (fb k), crcF8_xor, crcF8_xor]
theorem xor_i3 (a b c m : Nat) : a ^^^ b ^^^ c ^^^ m = (a ^^^ m) ^^^ (b ^^^ m) ^^^ (c ^^^ m) := by
  rw [xor4 a m b m, Nat.xor_self, Nat.xor_zero, ← Nat.xor_assoc (a ^^^ b) c m]
theorem crcB_xor2 (ra rb : Nat) (fa fb : Nat → Nat) (k : Nat) : crcB (ra ^^^ rb) (fun i => fa i ^^^ fb i) k = crcB ra fa k ^^^ crcB rb fb k := by
  induction k with
  | zero => rfl
  | succ k ih =>
    rw [crcB_succ, crcB_succ, crcB_succ, ih, xor4 (crcB ra fa k) (crcB rb fb k) (fa k) (fb k), crcF8_xor]
end Go.Proofs.Ytciaebhkemdilab
