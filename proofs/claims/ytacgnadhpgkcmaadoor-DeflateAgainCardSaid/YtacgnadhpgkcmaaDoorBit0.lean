import Derived.Test.YtacgnadhpgkcmaaDoorRows
import Derived.Test.YtacgnadhpgkcmaaDoorKeep
import Derived.Deep.QuietTactic
import Derived.BigQuiet
import Derived.OwnWalk
import Derived.Test.YtacgnadhpgkcmaaDoorBase
import Derived.Laws.BitsAllLaws
import Derived.Maps.AppendAt
/- What the methods of a position return, and isCount (contracts of the functions). -/
namespace Go.Proofs.YtacgnadhpgkcmaaDoor
open Go.RowKit
set_option linter.unusedVariables false

theorem ret_int {a b : Int} (h : a = b) : Ending.returned (.int .i64 a) = .returned (.int .i64 b) := by rw [h]
set_option maxHeartbeats 400000 in
theorem whole_any (g k : Nat) (hk : k ≤ 1152921504606846976) (w : World) (hc : w.cell? ⟨g, 0, none⟩ = some (.int .i64 k)) :
    Calls Tryd.prog 45 #[.pointer (some ⟨g, 0, none⟩)] w fun e w' => e = .returned (.int .i64 ((k / 8 : Nat) : Int)) ∧ w = w' := by
  go_enter Tryd.func45, Tryd.ntmps45
  go_wp2
  go_ret
  exact ⟨ret_int (by omega), rfl⟩
set_option maxHeartbeats 400000 in
theorem begun_any (g k : Nat) (hk : k ≤ 1152921504606846976) (w : World) (hc : w.cell? ⟨g, 0, none⟩ = some (.int .i64 k)) :
    Calls Tryd.prog 28 #[.pointer (some ⟨g, 0, none⟩)] w fun e w' => e = .returned (.int .i64 ((k % 8 : Nat) : Int)) ∧ w = w' := by
  go_enter Tryd.func28, Tryd.ntmps28
  go_wp2
  go_ret
  exact ⟨ret_int (by omega), rfl⟩
set_option maxHeartbeats 400000 in
theorem advance_any (g k n : Nat) (hk : k + n ≤ 1152921504606846976) (w : World) (hc : w.cell? ⟨g, 0, none⟩ = some (.int .i64 k)) (hf : w.frozen? ⟨g, 0, none⟩ = false) :
    Calls Tryd.prog 44 #[.pointer (some ⟨g, 0, none⟩), .int .i64 n] w fun e w' => e = .returned (.tuple #[]) ∧ w.setCell ⟨g, 0, none⟩ (.int .i64 ((k + n : Nat) : Int)) = w' := by
  go_enter Tryd.func44, Tryd.ntmps44
  go_wp2
  go_returns
  exact ⟨rfl, by simp⟩
def cntB (n : Int) : Bool := decide (0 ≤ n ∧ n ≤ 32)
theorem cntB_true {n : Int} (h : cntB n = true) : 0 ≤ n ∧ n ≤ 32 := of_decide_eq_true h
theorem cntB_false {n : Int} (h : cntB n = false) : n < 0 ∨ 32 < n := by
  have := of_decide_eq_false h; omega
theorem ret_bool' {a b : Bool} (h : a = b) : Ending.returned (.bool a) = .returned (.bool b) := by rw [h]
theorem isCount_any (n : Int) (w : World) :
    Calls Tryd.prog 43 #[.int .i64 n] w fun e w' => e = .returned (.bool (cntB n)) ∧ w = w' := by
  by_cases h0 : 0 ≤ n
  · by_cases h1 : n ≤ 32
    · go_enter Tryd.func43, Tryd.ntmps43
      go_wp2
      go_ret
      exact ⟨ret_bool' (by unfold cntB; simp; omega), rfl⟩
    · go_enter Tryd.func43, Tryd.ntmps43
      go_wp2
      go_ret
      exact ⟨ret_bool' (by unfold cntB; simp; omega), rfl⟩
  · go_enter Tryd.func43, Tryd.ntmps43
    go_wp2
    go_ret
    exact ⟨ret_bool' (by unfold cntB; simp; omega), rfl⟩
end Go.Proofs.YtacgnadhpgkcmaaDoor
/- Plain facts on bytes as one number whose lowest byte is the first, and on its bits. No program in them. -/
namespace Go.Proofs.YtacgnadhpgkcmaaDoor

def leN : List UInt8 → Nat
  | [] => 0
  | b :: l => b.toNat + 256 * leN l
theorem leN_lt (l : List UInt8) : leN l < 2 ^ (8 * l.length) := by
  induction l with
  | nil => simp [leN]
  | cons b l ih =>
    have hb : b.toNat < 256 := b.toNat_lt
    have e : 2 ^ (8 * (b :: l).length) = 256 * 2 ^ (8 * l.length) := by
      rw [List.length_cons, show 8 * (l.length + 1) = 8 + 8 * l.length by omega, Nat.pow_add]
    rw [e, leN]; omega
theorem leN_append (a b : List UInt8) : leN (a ++ b) = leN a + 2 ^ (8 * a.length) * leN b := by
  induction a with
  | nil => simp [leN]
  | cons x a ih =>
    rw [List.cons_append, leN, ih, leN, List.length_cons, show 8 * (a.length + 1) = 8 + 8 * a.length by omega, Nat.pow_add, Nat.mul_add, Nat.add_assoc, Nat.mul_assoc]
theorem leN_byte (l : List UInt8) (i : Nat) (h : i < l.length) : leN l / 2 ^ (8 * i) % 256 = l[i].toNat := by
  induction l generalizing i with
  | nil => simp at h
  | cons x l ih =>
    have hb : x.toNat < 256 := x.toNat_lt
    cases i with
    | zero => simp [leN]
    | succ i =>
      rw [show 8 * (i + 1) = 8 + 8 * i by omega, Nat.pow_add, ← Nat.div_div_eq_div_mul]
      have e : leN (x :: l) / 2 ^ 8 = leN l := by rw [leN]; omega
      rw [e]; exact ih i (by simpa using h)
theorem mdm (Y M r n : Nat) (h : r + n ≤ M) : Y % 2 ^ M / 2 ^ r % 2 ^ n = Y / 2 ^ r % 2 ^ n := by
  apply Nat.eq_of_testBit_eq
  intro i
  simp only [Nat.testBit_mod_two_pow, Nat.testBit_div_two_pow]
  by_cases hi : i < n
  · simp [hi, show i + r < M by omega]
  · simp [hi]
theorem mod_split (Y a b : Nat) : Y % 2 ^ (a + b) = Y % 2 ^ a + 2 ^ a * (Y / 2 ^ a % 2 ^ b) := by
  rw [Nat.pow_add, Nat.mod_mul]
/-- The n bits from bit k on, the first one the lowest. -/
def bv (s : ByteArray) (k n : Nat) : Nat := leN s.data.toList / 2 ^ k % 2 ^ n
theorem bv_lt (s : ByteArray) (k n : Nat) : bv s k n < 2 ^ n := Nat.mod_lt _ (Nat.two_pow_pos n)
theorem bv_zero (s : ByteArray) (k : Nat) : bv s k 0 = 0 := by simp [bv, Nat.mod_one]
theorem bv_add (s : ByteArray) (k a b : Nat) : bv s k (a + b) = bv s k a + 2 ^ a * bv s (k + a) b := by
  unfold bv
  rw [mod_split, Nat.div_div_eq_div_mul, ← Nat.pow_add]
theorem bv_byte (s : ByteArray) (i : Nat) (h : i < s.size) : bv s (8 * i) 8 = s[i].toNat := leN_byte s.data.toList i (by simpa using h)
theorem bv_part (s : ByteArray) (k M r n : Nat) (h : r + n ≤ M) : bv s k M / 2 ^ r % 2 ^ n = bv s (k + r) n := by
  unfold bv
  rw [mdm _ _ _ _ h, Nat.div_div_eq_div_mul, ← Nat.pow_add]
theorem bv_bit (s : ByteArray) (k : Nat) (h : k / 8 < s.size) : s[k / 8].toNat / 2 ^ (k % 8) % 2 = bv s k 1 := by
  rw [← bv_byte s (k / 8) h]
  have := bv_part s (8 * (k / 8)) 8 (k % 8) 1 (by omega)
  rw [show 8 * (k / 8) + k % 8 = k by omega] at this
  exact this
theorem bv_lt32 (s : ByteArray) (k n : Nat) (h : n ≤ 32) : bv s k n < 4294967296 := Nat.lt_of_lt_of_le (bv_lt s k n) (Nat.le_trans (Nat.pow_le_pow_right (by decide) h) (by decide))
theorem bv_lt40 (s : ByteArray) (k n : Nat) (h : n ≤ 40) : bv s k n < 1099511627776 := Nat.lt_of_lt_of_le (bv_lt s k n) (Nat.le_trans (Nat.pow_le_pow_right (by decide) h) (by decide))
/-- One more byte is laid on top. -/
theorem bv_or (s : ByteArray) (q i : Nat) (h : q + i < s.size) : bv s (8 * q) (8 * i) ||| s[q + i].toNat * 2 ^ (8 * i) = bv s (8 * q) (8 * (i + 1)) := by
  rw [Nat.or_comm, nat_join (8 * i) _ _ (Nat.mul_mod_left _ _) (bv_lt _ _ _), Nat.mul_add, bv_add, ← bv_byte s (q + i) h, Nat.mul_add]
  simp only [Nat.mul_one]
  rw [Nat.mul_comm, Nat.add_comm]
/-- A shift to the right and a mask. -/
theorem and_mask (x n : Nat) : x &&& (2 ^ n - 1) = x % 2 ^ n := Nat.and_two_pow_sub_one_eq_mod x n
end Go.Proofs.YtacgnadhpgkcmaaDoor
/- Plain facts on bits that are written: as bytes, and one by one. No program in them. -/
namespace Go.Proofs.YtacgnadhpgkcmaaDoor
open Go.RowKit
set_option linter.unusedVariables false

/-- What stands above the d lowest bytes. -/
def hiN (N d : Nat) : Nat := N / 2 ^ (8 * d)
/-- The first d bytes of a number, the lowest one first. -/
def byteCells (N d : Nat) : List Value := (List.range d).map fun j => Value.int .u8 ((hiN N j % 256 : Nat) : Int)
theorem byteCells_len (N d : Nat) : (byteCells N d).length = d := by simp [byteCells]
theorem byteCells_succ (N d : Nat) : byteCells N (d + 1) = byteCells N d ++ [Value.int .u8 ((hiN N d % 256 : Nat) : Int)] := by
  simp [byteCells, List.range_succ]
theorem byte_cong {N M d j : Nat} (h : N % 2 ^ (8 * d) = M % 2 ^ (8 * d)) (hj : j < d) : hiN N j % 256 = hiN M j % 256 := by
  unfold hiN
  have e1 := mdm N (8 * d) (8 * j) 8 (by omega)
  have e2 := mdm M (8 * d) (8 * j) 8 (by omega)
  rw [h] at e1
  exact e1.symm.trans e2
theorem byteCells_cong {N M d : Nat} (h : N % 2 ^ (8 * d) = M % 2 ^ (8 * d)) : byteCells N d = byteCells M d := by
  unfold byteCells
  apply List.map_congr_left
  intro j hj
  rw [byte_cong h (List.mem_range.1 hj)]
/-- One more number is laid on top. -/
theorem lay_cong (N v k d : Nat) (h : 8 * d ≤ k) : (N + v * 2 ^ k) % 2 ^ (8 * d) = N % 2 ^ (8 * d) := by
  have e : v * 2 ^ k = 2 ^ (8 * d) * (2 ^ (k - 8 * d) * v) := by
    rw [← Nat.mul_assoc, ← Nat.pow_add, show 8 * d + (k - 8 * d) = k by omega, Nat.mul_comm]
  rw [e, Nat.add_mul_mod_self_left]
theorem lay_lt {N v k n : Nat} (h : N < 2 ^ k) (hv : v < 2 ^ n) : N + v * 2 ^ k < 2 ^ (k + n) := by
  have : (v + 1) * 2 ^ k ≤ 2 ^ n * 2 ^ k := Nat.mul_le_mul_right _ hv
  rw [Nat.add_mul, Nat.one_mul] at this
  rw [Nat.pow_add, Nat.mul_comm (2 ^ k)]
  omega
theorem lay_open (N v k : Nat) : (N + v * 2 ^ k) / 2 ^ (8 * (k / 8)) = N / 2 ^ (8 * (k / 8)) + v * 2 ^ (k % 8) := by
  have e : v * 2 ^ k = (v * 2 ^ (k % 8)) * 2 ^ (8 * (k / 8)) := by
    rw [Nat.mul_assoc, ← Nat.pow_add, show k % 8 + 8 * (k / 8) = k by omega]
  rw [e, Nat.add_mul_div_right _ _ (Nat.two_pow_pos _)]
theorem div_lt_pow {N a b : Nat} (h : N < 2 ^ (a + b)) : N / 2 ^ a < 2 ^ b := by
  rw [Nat.div_lt_iff_lt_mul (Nat.two_pow_pos a), Nat.mul_comm, ← Nat.pow_add]; exact h
theorem open_lt {N k : Nat} (h : N < 2 ^ k) : N / 2 ^ (8 * (k / 8)) < 2 ^ (k % 8) := div_lt_pow (by rw [show 8 * (k / 8) + k % 8 = k by omega]; exact h)
theorem pow_le_128 {r : Nat} (h : r < 8) : 2 ^ r ≤ 128 := Nat.le_trans (Nat.pow_le_pow_right (by decide) (show r ≤ 7 by omega)) (by decide)
theorem last_lt {N k : Nat} (h : N < 2 ^ k) : hiN N (k / 8) < 128 := Nat.lt_of_lt_of_le (open_lt h) (pow_le_128 (Nat.mod_lt _ (by decide)))
/-- The last byte, and one more number above it. -/
theorem or_open (N v k : Nat) (h : N < 2 ^ k) : N / 2 ^ (8 * (k / 8)) ||| v * 2 ^ (k % 8) = (N + v * 2 ^ k) / 2 ^ (8 * (k / 8)) := by
  rw [lay_open, Nat.or_comm, nat_join (k % 8) _ _ (Nat.mul_mod_left _ _) (open_lt h), Nat.add_comm]
theorem or64w (N v k : Nat) (h : N < 2 ^ k) (hv : v < 4294967296) :
    bits BinOp.or IntKind.u64 ((hiN N (k / 8) : Nat) : Int) (IntKind.u64.wrap ((v : Int) * 2 ^ (k % 8))) = ((hiN (N + v * 2 ^ k) (k / 8) : Nat) : Int) := by
  have hll := last_lt h
  unfold hiN at hll ⊢
  have hp := pow_le_128 (Nat.mod_lt k (show 0 < 8 by decide))
  have h1 : v * 2 ^ (k % 8) ≤ 4294967296 * 128 := Nat.mul_le_mul (by omega) hp
  have e1 : IntKind.u64.wrap ((v : Int) * 2 ^ (k % 8)) = ((v * 2 ^ (k % 8) : Nat) : Int) := by
    rw [IntKind.wrap_u64]
    have : ((v : Int) * 2 ^ (k % 8)) = ((v * 2 ^ (k % 8) : Nat) : Int) := by simp
    rw [this]; omega
  rw [e1, u64_or_nat _ _ (by omega) (by omega), or_open N v k h]
theorem div_step (N d : Nat) : hiN N d / 256 = hiN N (d + 1) := by
  unfold hiN
  rw [Nat.div_div_eq_div_mul, show (256 : Nat) = 2 ^ 8 from rfl, ← Nat.pow_add, Nat.mul_add]
/-- Bits one by one. -/
def bitCells (N k : Nat) : List Value := (List.range k).map fun i => Value.int .u8 ((N / 2 ^ i % 2 : Nat) : Int)
theorem bitCells_len (N k : Nat) : (bitCells N k).length = k := by simp [bitCells]
theorem bitCells_succ (N k : Nat) : bitCells N (k + 1) = bitCells N k ++ [Value.int .u8 ((N / 2 ^ k % 2 : Nat) : Int)] := by simp [bitCells, List.range_succ]
theorem bitCells_get (N k i : Nat) (h : i < k) : (bitCells N k)[i]? = some (Value.int .u8 ((N / 2 ^ i % 2 : Nat) : Int)) := by simp [bitCells, h]
theorem bitCells_cong {N M k : Nat} (h : N % 2 ^ k = M % 2 ^ k) : bitCells N k = bitCells M k := by
  unfold bitCells
  apply List.map_congr_left
  intro j hj
  have hj := List.mem_range.1 hj
  have e1 := mdm N k j 1 (by omega)
  have e2 := mdm M k j 1 (by omega)
  rw [h] at e1
  have e3 : N / 2 ^ j % 2 = M / 2 ^ j % 2 := e1.symm.trans e2
  rw [e3]
end Go.Proofs.YtacgnadhpgkcmaaDoor
/- What missing returns (contract of the function). -/
namespace Go.Proofs.YtacgnadhpgkcmaaDoor
open Go.RowKit
set_option linter.unusedVariables false
/-- How many bits are missing up to the next whole byte. -/
def miss (k : Nat) : Nat := (8 - k % 8) % 8
theorem miss_lt (k : Nat) : miss k < 8 := Nat.mod_lt _ (by decide)
set_option maxHeartbeats 400000 in
theorem missing_any (g k : Nat) (hk : k ≤ 1152921504606846976) (w : World) (hc : w.cell? ⟨g, 0, none⟩ = some (.int .i64 k)) :
    Calls Tryd.prog 51 #[.pointer (some ⟨g, 0, none⟩)] w fun e w' => e = .returned (.int .i64 (miss k : Nat)) ∧ w = w' := by
  have h8 : k % 8 < 8 := Nat.mod_lt _ (by decide)
  obtain ⟨r, hr⟩ : ∃ r, k % 8 = r := ⟨_, rfl⟩
  have hb := begun_any g k hk w hc
  rw [hr] at hb h8
  have HR := hid hr
  have HB := hid hb
  clear hr hb
  go_enter Tryd.func51, Tryd.ntmps51
  go_wp2_with fail
  refine HB.out.mono ?_
  rintro e w' ⟨rfl, rfl⟩
  go_wp2
  go_ret
  exact ⟨ret_int (by unfold miss; rw [HR.out]; omega), rfl⟩
end Go.Proofs.YtacgnadhpgkcmaaDoor
