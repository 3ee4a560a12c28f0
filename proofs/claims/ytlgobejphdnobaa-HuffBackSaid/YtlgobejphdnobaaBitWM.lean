/- Plain facts on bits that are written: as bytes, and one by one. No program in them. -/
import Derived.Test.YtlgobejphdnobaaBitM
import Derived.Test.YtlgobejphdnobaaKeep
import Derived.Maps.AppendAt
namespace Go.Proofs.Ytlgobejphdnobaa
open Go.RowKit
set_option linter.unusedVariables false

/-- What stands above the d lowest bytes. -/
def hiN (N d : Nat) : Nat := N / 2 ^ (8 * d)
/-- The first d bytes of a number, the lowest one first. -/
def byteCells (N d : Nat) : List Value := (List.range d).map fun j => Value.int .u8 ((hiN N j % 256 : Nat) : Int)
theorem byteCells_len (N d : Nat) : (byteCells N d).length = d := by simp [byteCells]
theorem byteCells_succ (N d : Nat) : byteCells N (d + 1) = byteCells N d ++ [Value.int .u8 ((hiN N d % 256 : Nat) : Int)] := by
  simp [byteCells, List.range_succ]
theorem byte_cong {N M d j : Nat} (h : N % 2 ^ (8 * d) = M % 2 ^ (8 * d)) (hj : j < d) : hiN N j % 256 = hiN M j % 256 := by
  unfold hiN
  have e1 := mdm N (8 * d) (8 * j) 8 (by omega)
  have e2 := mdm M (8 * d) (8 * j) 8 (by omega)
  rw [h] at e1
  exact e1.symm.trans e2
theorem byteCells_cong {N M d : Nat} (h : N % 2 ^ (8 * d) = M % 2 ^ (8 * d)) : byteCells N d = byteCells M d := by
  unfold byteCells
  apply List.map_congr_left
  intro j hj
  rw [byte_cong h (List.mem_range.1 hj)]
/-- One more number is laid on top. -/
theorem lay_cong (N v k d : Nat) (h : 8 * d ≤ k) : (N + v * 2 ^ k) % 2 ^ (8 * d) = N % 2 ^ (8 * d) := by
  have e : v * 2 ^ k = 2 ^ (8 * d) * (2 ^ (k - 8 * d) * v) := by
    rw [← Nat.mul_assoc, ← Nat.pow_add, show 8 * d + (k - 8 * d) = k by omega, Nat.mul_comm]
  rw [e, Nat.add_mul_mod_self_left]
theorem lay_lt {N v k n : Nat} (h : N < 2 ^ k) (hv : v < 2 ^ n) : N + v * 2 ^ k < 2 ^ (k + n) := by
  have : (v + 1) * 2 ^ k ≤ 2 ^ n * 2 ^ k := Nat.mul_le_mul_right _ hv
  rw [Nat.add_mul, Nat.one_mul] at this
  rw [Nat.pow_add, Nat.mul_comm (2 ^ k)]
  omega
theorem lay_open (N v k : Nat) : (N + v * 2 ^ k) / 2 ^ (8 * (k / 8)) = N / 2 ^ (8 * (k / 8)) + v * 2 ^ (k % 8) := by
  have e : v * 2 ^ k = (v * 2 ^ (k % 8)) * 2 ^ (8 * (k / 8)) := by
    rw [Nat.mul_assoc, ← Nat.pow_add, show k % 8 + 8 * (k / 8) = k by omega]
  rw [e, Nat.add_mul_div_right _ _ (Nat.two_pow_pos _)]
theorem div_lt_pow {N a b : Nat} (h : N < 2 ^ (a + b)) : N / 2 ^ a < 2 ^ b := by
  rw [Nat.div_lt_iff_lt_mul (Nat.two_pow_pos a), Nat.mul_comm, ← Nat.pow_add]; exact h
theorem open_lt {N k : Nat} (h : N < 2 ^ k) : N / 2 ^ (8 * (k / 8)) < 2 ^ (k % 8) := div_lt_pow (by rw [show 8 * (k / 8) + k % 8 = k by omega]; exact h)
theorem pow_le_128 {r : Nat} (h : r < 8) : 2 ^ r ≤ 128 := Nat.le_trans (Nat.pow_le_pow_right (by decide) (show r ≤ 7 by omega)) (by decide)
theorem last_lt {N k : Nat} (h : N < 2 ^ k) : hiN N (k / 8) < 128 := Nat.lt_of_lt_of_le (open_lt h) (pow_le_128 (Nat.mod_lt _ (by decide)))
/-- The last byte, and one more number above it. -/
theorem or_open (N v k : Nat) (h : N < 2 ^ k) : N / 2 ^ (8 * (k / 8)) ||| v * 2 ^ (k % 8) = (N + v * 2 ^ k) / 2 ^ (8 * (k / 8)) := by
  rw [lay_open, Nat.or_comm, nat_join (k % 8) _ _ (Nat.mul_mod_left _ _) (open_lt h), Nat.add_comm]
theorem or64w (N v k : Nat) (h : N < 2 ^ k) (hv : v < 4294967296) :
    bits BinOp.or IntKind.u64 ((hiN N (k / 8) : Nat) : Int) (IntKind.u64.wrap ((v : Int) * 2 ^ (k % 8))) = ((hiN (N + v * 2 ^ k) (k / 8) : Nat) : Int) := by
  have hll := last_lt h
  unfold hiN at hll ⊢
  have hp := pow_le_128 (Nat.mod_lt k (show 0 < 8 by decide))
  have h1 : v * 2 ^ (k % 8) ≤ 4294967296 * 128 := Nat.mul_le_mul (by omega) hp
  have e1 : IntKind.u64.wrap ((v : Int) * 2 ^ (k % 8)) = ((v * 2 ^ (k % 8) : Nat) : Int) := by
    rw [IntKind.wrap_u64]
    have : ((v : Int) * 2 ^ (k % 8)) = ((v * 2 ^ (k % 8) : Nat) : Int) := by simp
    rw [this]; omega
  rw [e1, u64_or_nat _ _ (by omega) (by omega), or_open N v k h]
theorem div_step (N d : Nat) : hiN N d / 256 = hiN N (d + 1) := by
  unfold hiN
  rw [Nat.div_div_eq_div_mul, show (256 : Nat) = 2 ^ 8 from rfl, ← Nat.pow_add, Nat.mul_add]
/-- Bits one by one. -/
def bitCells (N k : Nat) : List Value := (List.range k).map fun i => Value.int .u8 ((N / 2 ^ i % 2 : Nat) : Int)
theorem bitCells_len (N k : Nat) : (bitCells N k).length = k := by simp [bitCells]
theorem bitCells_succ (N k : Nat) : bitCells N (k + 1) = bitCells N k ++ [Value.int .u8 ((N / 2 ^ k % 2 : Nat) : Int)] := by simp [bitCells, List.range_succ]
theorem bitCells_get (N k i : Nat) (h : i < k) : (bitCells N k)[i]? = some (Value.int .u8 ((N / 2 ^ i % 2 : Nat) : Int)) := by simp [bitCells, h]
theorem bitCells_cong {N M k : Nat} (h : N % 2 ^ k = M % 2 ^ k) : bitCells N k = bitCells M k := by
  unfold bitCells
  apply List.map_congr_left
  intro j hj
  have hj := List.mem_range.1 hj
  have e1 := mdm N k j 1 (by omega)
  have e2 := mdm M k j 1 (by omega)
  rw [h] at e1
  have e3 : N / 2 ^ j % 2 = M / 2 ^ j % 2 := e1.symm.trans e2
  rw [e3]
end Go.Proofs.Ytlgobejphdnobaa
