/- Plain facts on the CRC: its step on numbers, its linearity, half a byte at a time, what a burst of turned bits makes of it; the sums of Adler, of words and of a TAR header as functions of a list of bytes. No program in them. -/
import Derived.Test.YtciaebhkemdilabBase
namespace Go.Proofs.Ytciaebhkemdilab

def crcP : Nat := 3988292384
def crcF (r : Nat) : Nat := (r / 2) ^^^ (if r % 2 = 1 then 3988292384 else 0)
def crcF4 (r : Nat) : Nat := crcF (crcF (crcF (crcF r)))
def crcF8 (r : Nat) : Nat := crcF4 (crcF4 r)
def crcI (c : Nat) : Nat := c ^^^ 4294967295
def crcR (r : Nat) (l : List UInt8) : Nat := l.foldl (fun r b => crcF8 (r ^^^ b.toNat)) r
def moreN (c : Nat) (l : List UInt8) : Nat := crcI (crcR (crcI c) l)
def crcT : List Nat := [0, 498536548, 997073096, 651767980, 1994146192, 1802195444, 1303535960, 1342533948, 3988292384, 4027552580, 3604390888, 3412177804, 2607071920, 2262029012, 2685067896, 3183342108]

theorem xor_lt32 {a b : Nat} (ha : a < 4294967296) (hb : b < 4294967296) : a ^^^ b < 4294967296 := Nat.xor_lt_two_pow (n := 32) ha hb
theorem crcF_lt {r : Nat} (h : r < 4294967296) : crcF r < 4294967296 := by
  unfold crcF
  refine xor_lt32 (by omega) ?_
  split <;> omega
theorem crcF4_lt {r : Nat} (h : r < 4294967296) : crcF4 r < 4294967296 := crcF_lt (crcF_lt (crcF_lt (crcF_lt h)))
theorem crcF8_lt {r : Nat} (h : r < 4294967296) : crcF8 r < 4294967296 := crcF4_lt (crcF4_lt h)
theorem crcI_lt {r : Nat} (h : r < 4294967296) : crcI r < 4294967296 := xor_lt32 h (by omega)
theorem byte_lt (b : UInt8) : b.toNat < 256 := b.toNat_lt
theorem crcR_lt {r : Nat} (h : r < 4294967296) (l : List UInt8) : crcR r l < 4294967296 := by
  induction l generalizing r with
  | nil => exact h
  | cons b l ih => exact ih (crcF8_lt (xor_lt32 h (by have := byte_lt b; omega)))
theorem moreN_lt {c : Nat} (h : c < 4294967296) (l : List UInt8) : moreN c l < 4294967296 := crcI_lt (crcR_lt (crcI_lt h) l)
theorem crcI_I (c : Nat) : crcI (crcI c) = c := by unfold crcI; rw [Nat.xor_assoc, Nat.xor_self, Nat.xor_zero]
theorem crcR_append (r : Nat) (l m : List UInt8) : crcR r (l ++ m) = crcR (crcR r l) m := by unfold crcR; exact List.foldl_append
theorem crcR_snoc (r : Nat) (l : List UInt8) (b : UInt8) : crcR r (l ++ [b]) = crcF8 (crcR r l ^^^ b.toNat) := crcR_append r l [b]
theorem moreN_append (c : Nat) (l m : List UInt8) : moreN c (l ++ m) = moreN (moreN c l) m := by
  unfold moreN; rw [crcI_I, crcR_append]

theorem xor4 (a b c d : Nat) : (a ^^^ b) ^^^ (c ^^^ d) = (a ^^^ c) ^^^ (b ^^^ d) := by
  rw [Nat.xor_assoc, Nat.xor_assoc, ← Nat.xor_assoc b c d, ← Nat.xor_assoc c b d, Nat.xor_comm b c]
theorem crcF_xor (a b : Nat) : crcF (a ^^^ b) = crcF a ^^^ crcF b := by
  unfold crcF
  rw [Nat.xor_div_two, xor4]
  congr 1
  have h : ((a ^^^ b) % 2 = 1) ↔ ¬ ((a % 2 = 1) ↔ (b % 2 = 1)) := Nat.xor_mod_two_eq_one
  by_cases ha : a % 2 = 1 <;> by_cases hb : b % 2 = 1 <;> simp [h, ha, hb]
theorem crcF4_xor (a b : Nat) : crcF4 (a ^^^ b) = crcF4 a ^^^ crcF4 b := by unfold crcF4; simp only [crcF_xor]
theorem crcF8_xor (a b : Nat) : crcF8 (a ^^^ b) = crcF8 a ^^^ crcF8 b := by unfold crcF8; simp only [crcF4_xor]
theorem crcF_double (m : Nat) : crcF (2 * m) = m := by
  unfold crcF
  rw [if_neg (by omega), Nat.xor_zero]; omega
theorem crcF4_16 (m : Nat) : crcF4 (16 * m) = m := by
  unfold crcF4
  rw [show 16 * m = 2 * (2 * (2 * (2 * m))) by omega, crcF_double, crcF_double, crcF_double, crcF_double]
theorem crcF8_256 (m : Nat) : crcF8 (256 * m) = m := by
  unfold crcF8
  rw [show 256 * m = 16 * (16 * m) by omega, crcF4_16, crcF4_16]
theorem crcF4_small (t : Nat) (h : t < 16) : crcF4 t = crcT.getD t 0 := by
  have : ∀ t : Fin 16, crcF4 t.1 = crcT.getD t.1 0 := by decide +kernel
  exact this ⟨t, h⟩
theorem split16 (r : Nat) : 16 * (r / 16) ^^^ r % 16 = r := by
  have h : 2 ^ 4 * (r / 2 ^ 4) + r % 2 ^ 4 = 2 ^ 4 * (r / 2 ^ 4) ^^^ r % 2 ^ 4 := by
    apply Nat.eq_of_testBit_eq
    intro i
    rw [Nat.testBit_xor, Nat.testBit_two_pow_mul_add _ (Nat.mod_lt _ (by decide)), Nat.testBit_two_pow_mul]
    by_cases hi : i < 4
    · simp [hi, Nat.not_le.2 hi]
    · have h : r % 2 ^ 4 < 2 ^ i := Nat.lt_of_lt_of_le (Nat.mod_lt _ (by decide)) (Nat.pow_le_pow_right (by decide) (Nat.le_of_not_lt hi))
      rw [if_neg hi, Nat.testBit_lt_two_pow h]
      simp [Nat.le_of_not_lt hi]
  have e := Nat.div_add_mod r (2 ^ 4)
  rw [h] at e
  exact e
/-- Half a byte at a time. -/
theorem crcF4_half (r : Nat) : crcF4 r = r / 16 ^^^ crcT.getD (r % 16) 0 := by
  rw [← crcF4_small (r % 16) (Nat.mod_lt _ (by decide))]
  conv => lhs; rw [← split16 r, crcF4_xor, crcF4_16]
theorem crcT_lt (t : Nat) (h : t < 16) : crcT.getD t 0 < 4294967296 := by rw [← crcF4_small t h]; exact crcF4_lt (by omega)

/-- The document's loop over a byte's bits: k of them are done. -/
def bitR (r b : Nat) : Nat → Nat
  | 0 => r
  | k + 1 => (bitR r b k / 2) ^^^ (if bitR r b k % 2 ≠ b / 2 ^ k % 2 then 3988292384 else 0)
theorem bitR_lt {r b : Nat} (h : r < 4294967296) (k : Nat) : bitR r b k < 4294967296 := by
  induction k with
  | zero => exact h
  | succ k ih => unfold bitR; refine xor_lt32 (by omega) ?_; split <;> omega
def crcFn (r : Nat) : Nat → Nat
  | 0 => r
  | k + 1 => crcF (crcFn r k)
theorem bitR_eq (r b k : Nat) : bitR r b k ^^^ b / 2 ^ k = crcFn (r ^^^ b) k := by
  induction k with
  | zero => simp [bitR, crcFn]
  | succ k ih =>
    rw [crcFn, ← ih]
    show (bitR r b k / 2 ^^^ if bitR r b k % 2 ≠ b / 2 ^ k % 2 then 3988292384 else 0) ^^^ b / 2 ^ (k + 1) = crcF _
    unfold crcF
    rw [Nat.xor_div_two, Nat.div_div_eq_div_mul, ← Nat.pow_succ, Nat.xor_assoc, Nat.xor_assoc, Nat.xor_comm _ (b / 2 ^ (k + 1))]
    congr 2
    have h := Nat.xor_mod_two_eq_one (a := bitR r b k) (b := b / 2 ^ k)
    by_cases ha : bitR r b k % 2 = 1 <;> by_cases hb : b / 2 ^ k % 2 = 1
    · simp [h, ha, hb]
    · simp [h, ha, show b / 2 ^ k % 2 = 0 by omega]
    · simp [h, hb, show bitR r b k % 2 = 0 by omega]
    · simp [h, show bitR r b k % 2 = 0 by omega, show b / 2 ^ k % 2 = 0 by omega]
theorem bitR_8 (r b : Nat) (h : b < 256) : bitR r b 8 = crcF8 (r ^^^ b) := by
  have e := bitR_eq r b 8
  rw [Nat.div_eq_of_lt (show b < 2 ^ 8 by omega), Nat.xor_zero] at e
  exact e
end Go.Proofs.Ytciaebhkemdilab
