/- Plain facts on bytes as one number whose lowest byte is the first, and on its bits. No program in them. -/
import Derived.Test.YtcacnidlfjglbaaBase
import Derived.Laws.BitsAllLaws
namespace Go.Proofs.Ytcacnidlfjglbaa

def leN : List UInt8 → Nat
  | [] => 0
  | b :: l => b.toNat + 256 * leN l
theorem leN_lt (l : List UInt8) : leN l < 2 ^ (8 * l.length) := by
  induction l with
  | nil => simp [leN]
  | cons b l ih =>
    have hb : b.toNat < 256 := b.toNat_lt
    have e : 2 ^ (8 * (b :: l).length) = 256 * 2 ^ (8 * l.length) := by
      rw [List.length_cons, show 8 * (l.length + 1) = 8 + 8 * l.length by omega, Nat.pow_add]
    rw [e, leN]; omega
theorem leN_append (a b : List UInt8) : leN (a ++ b) = leN a + 2 ^ (8 * a.length) * leN b := by
  induction a with
  | nil => simp [leN]
  | cons x a ih =>
    rw [List.cons_append, leN, ih, leN, List.length_cons, show 8 * (a.length + 1) = 8 + 8 * a.length by omega, Nat.pow_add, Nat.mul_add, Nat.add_assoc, Nat.mul_assoc]
theorem leN_byte (l : List UInt8) (i : Nat) (h : i < l.length) : leN l / 2 ^ (8 * i) % 256 = l[i].toNat := by
  induction l generalizing i with
  | nil => simp at h
  | cons x l ih =>
    have hb : x.toNat < 256 := x.toNat_lt
    cases i with
    | zero => simp [leN]
    | succ i =>
      rw [show 8 * (i + 1) = 8 + 8 * i by omega, Nat.pow_add, ← Nat.div_div_eq_div_mul]
      have e : leN (x :: l) / 2 ^ 8 = leN l := by rw [leN]; omega
      rw [e]; exact ih i (by simpa using h)
theorem mdm (Y M r n : Nat) (h : r + n ≤ M) : Y % 2 ^ M / 2 ^ r % 2 ^ n = Y / 2 ^ r % 2 ^ n := by
  apply Nat.eq_of_testBit_eq
  intro i
  simp only [Nat.testBit_mod_two_pow, Nat.testBit_div_two_pow]
  by_cases hi : i < n
  · simp [hi, show i + r < M by omega]
  · simp [hi]
theorem mod_split (Y a b : Nat) : Y % 2 ^ (a + b) = Y % 2 ^ a + 2 ^ a * (Y / 2 ^ a % 2 ^ b) := by
  rw [Nat.pow_add, Nat.mod_mul]
/-- The n bits from bit k on, the first one the lowest. -/
def bv (s : ByteArray) (k n : Nat) : Nat := leN s.data.toList / 2 ^ k % 2 ^ n
theorem bv_lt (s : ByteArray) (k n : Nat) : bv s k n < 2 ^ n := Nat.mod_lt _ (Nat.two_pow_pos n)
theorem bv_zero (s : ByteArray) (k : Nat) : bv s k 0 = 0 := by simp [bv, Nat.mod_one]
theorem bv_add (s : ByteArray) (k a b : Nat) : bv s k (a + b) = bv s k a + 2 ^ a * bv s (k + a) b := by
  unfold bv
  rw [mod_split, Nat.div_div_eq_div_mul, ← Nat.pow_add]
theorem bv_byte (s : ByteArray) (i : Nat) (h : i < s.size) : bv s (8 * i) 8 = s[i].toNat := leN_byte s.data.toList i (by simpa using h)
theorem bv_part (s : ByteArray) (k M r n : Nat) (h : r + n ≤ M) : bv s k M / 2 ^ r % 2 ^ n = bv s (k + r) n := by
  unfold bv
  rw [mdm _ _ _ _ h, Nat.div_div_eq_div_mul, ← Nat.pow_add]
theorem bv_bit (s : ByteArray) (k : Nat) (h : k / 8 < s.size) : s[k / 8].toNat / 2 ^ (k % 8) % 2 = bv s k 1 := by
  rw [← bv_byte s (k / 8) h]
  have := bv_part s (8 * (k / 8)) 8 (k % 8) 1 (by omega)
  rw [show 8 * (k / 8) + k % 8 = k by omega] at this
  exact this
theorem bv_lt32 (s : ByteArray) (k n : Nat) (h : n ≤ 32) : bv s k n < 4294967296 := Nat.lt_of_lt_of_le (bv_lt s k n) (Nat.le_trans (Nat.pow_le_pow_right (by decide) h) (by decide))
theorem bv_lt40 (s : ByteArray) (k n : Nat) (h : n ≤ 40) : bv s k n < 1099511627776 := Nat.lt_of_lt_of_le (bv_lt s k n) (Nat.le_trans (Nat.pow_le_pow_right (by decide) h) (by decide))
/-- One more byte is laid on top. -/
theorem bv_or (s : ByteArray) (q i : Nat) (h : q + i < s.size) : bv s (8 * q) (8 * i) ||| s[q + i].toNat * 2 ^ (8 * i) = bv s (8 * q) (8 * (i + 1)) := by
  rw [Nat.or_comm, nat_join (8 * i) _ _ (Nat.mul_mod_left _ _) (bv_lt _ _ _), Nat.mul_add, bv_add, ← bv_byte s (q + i) h, Nat.mul_add]
  simp only [Nat.mul_one]
  rw [Nat.mul_comm, Nat.add_comm]
/-- A shift to the right and a mask. -/
theorem and_mask (x n : Nat) : x &&& (2 ^ n - 1) = x % 2 ^ n := Nat.and_two_pow_sub_one_eq_mod x n
end Go.Proofs.Ytcacnidlfjglbaa
