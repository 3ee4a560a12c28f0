/- Plain facts on numbers that are read from bytes, either way round. -/
import Derived.Test.YtgkgimfdbkpbdaaDoorWinF
namespace Go.Proofs.YtgkgimfdbkpbdaaDoor
open Go.RowKit
set_option linter.unusedVariables false

/-- Byte i of a text; 0 beyond it. -/
def bt (s : ByteArray) (i : Nat) : Nat := if h : i < s.size then s[i].toNat else 0
theorem bt_eq (s : ByteArray) (i : Nat) (h : i < s.size) : bt s i = (s[i]'h).toNat := by simp [bt, h]
theorem bt_lt (s : ByteArray) (i : Nat) : bt s i < 256 := by
  unfold bt
  split
  · exact UInt8.toNat_lt _
  · omega
/-- The first k digits to the base 256, the highest one first. -/
def horn (f : Nat → Nat) : Nat → Nat
  | 0 => 0
  | k + 1 => horn f k * 256 + f k
theorem horn_lt (f : Nat → Nat) (hf : ∀ i, f i < 256) (k : Nat) : horn f k < 256 ^ k := by
  induction k with
  | zero => simp [horn]
  | succ k ih => rw [horn, Nat.pow_succ]; have := hf k; omega
theorem horn_le (f : Nat → Nat) (hf : ∀ i, f i < 256) (k : Nat) (hk : k ≤ 8) : horn f k ≤ 18446744073709551615 := by
  have h := horn_lt f hf k
  have h2 : 256 ^ k ≤ 256 ^ 8 := Nat.pow_le_pow_right (by omega) hk
  omega
theorem horn_congr {f g : Nat → Nat} (k : Nat) (h : ∀ i, i < k → f i = g i) : horn f k = horn g k := by
  induction k with
  | zero => rfl
  | succ k ih => rw [horn, horn, ih (fun i hi => h i (by omega)), h k (by omega)]
/-- The lowest one first. -/
def lit (f : Nat → Nat) : Nat → Nat
  | 0 => 0
  | k + 1 => lit f k + f k * 256 ^ k
theorem lit_lt (f : Nat → Nat) (hf : ∀ i, f i < 256) (k : Nat) : lit f k < 256 ^ k := by
  induction k with
  | zero => simp [lit]
  | succ k ih =>
    rw [lit, Nat.pow_succ]
    have := hf k
    have : f k * 256 ^ k ≤ 255 * 256 ^ k := Nat.mul_le_mul_right _ (by omega)
    omega
theorem lit_front (f : Nat → Nat) (k : Nat) : lit f (k + 1) = f 0 + 256 * lit (fun i => f (i + 1)) k := by
  induction k with
  | zero => simp [lit]
  | succ k ih =>
    rw [lit, ih, lit, Nat.mul_add, Nat.pow_succ]
    have : f (k + 1) * (256 ^ k * 256) = 256 * (f (k + 1) * 256 ^ k) := by rw [← Nat.mul_assoc, Nat.mul_comm]
    omega
theorem horn_rev (k : Nat) : ∀ f : Nat → Nat, horn (fun i => f (k - 1 - i)) k = lit f k := by
  induction k with
  | zero => intro f; rfl
  | succ k ih =>
    intro f
    rw [horn, lit_front, ← ih (fun i => f (i + 1))]
    have e : horn (fun i => f (k + 1 - 1 - i)) k = horn (fun i => f (k - 1 - i + 1)) k := horn_congr k fun i hi => by
      show f (k + 1 - 1 - i) = f (k - 1 - i + 1)
      rw [show k + 1 - 1 - i = k - 1 - i + 1 by omega]
    rw [e]
    simp
    omega

/-- The bytes from p on in the order in which the highest one comes first. -/
def dig (s : ByteArray) (p d : Nat) (big : Bool) (i : Nat) : Nat := bt s (if big then p + i else p + d - 1 - i)
theorem dig_lt (s : ByteArray) (p d : Nat) (big : Bool) (i : Nat) : dig s p d big i < 256 := bt_lt _ _
theorem dig_big (s : ByteArray) (p d i : Nat) (h : p + i < s.size) : dig s p d true i = (s[p + i]'h).toNat := by rw [dig, if_pos rfl, bt_eq]
theorem dig_little (s : ByteArray) (p d i : Nat) (h : p + d - 1 - i < s.size) : dig s p d false i = (s[p + d - 1 - i]'h).toNat := by rw [dig, if_neg (by decide), bt_eq]
/-- The number of the d bytes from p on. -/
def numAt (s : ByteArray) (p d : Nat) (big : Bool) : Nat := horn (dig s p d big) d
def uintE (z : Nat) (a d : Int) : Int := if widB d = true then subE z a d else 1
def uintV (s : ByteArray) (a d : Int) (big : Bool) : Int := if uintE s.size a d = 0 then (numAt s a.toNat d.toNat big : Int) else 0
theorem uintE_bad {z : Nat} {a d : Int} (h : widB d = false) : uintE z a d = 1 := by simp [uintE, h]
theorem uintE_sub {z : Nat} {a d : Int} (h : widB d = true) : uintE z a d = subE z a d := by simp [uintE, h]
theorem uintV_bad {s : ByteArray} {a d : Int} {big : Bool} (h : uintE s.size a d ≠ 0) : uintV s a d big = 0 := if_neg h
theorem uintV_ok {s : ByteArray} {a d : Int} {big : Bool} (h : uintE s.size a d = 0) : uintV s a d big = numAt s a.toNat d.toNat big := if_pos h
theorem ret_u {n m : Int} {e f : Int} (h : n = m) (k : e = f) : Ending.returned (.tuple #[.int .u64 n, .int .i64 e]) = .returned (.tuple #[.int .u64 m, .int .i64 f]) := by rw [h, k]

/-- What is shifted to its place beside what stands there: the highest byte first. -/
theorem or_big (f : Nat → Nat) (hf : ∀ i, f i < 256) (d k : Nat) (hk : k < d) :
    (horn f k * 256 ^ (d - k)) ||| (f k * 2 ^ (8 * (d - 1 - k))) = horn f (k + 1) * 256 ^ (d - (k + 1)) := by
  have e1 : 256 ^ (d - k) = 2 ^ (8 * (d - 1 - k) + 8) := by
    rw [show (256 : Nat) = 2 ^ 8 from rfl, ← Nat.pow_mul, show 8 * (d - k) = 8 * (d - 1 - k) + 8 by omega]
  have e2 : 256 ^ (d - (k + 1)) = 2 ^ (8 * (d - 1 - k)) := by
    rw [show (256 : Nat) = 2 ^ 8 from rfl, ← Nat.pow_mul, show 8 * (d - (k + 1)) = 8 * (d - 1 - k) by omega]
  rw [e1, e2, horn, Nat.add_mul, Nat.mul_comm (horn f k)]
  have hl : f k * 2 ^ (8 * (d - 1 - k)) < 2 ^ (8 * (d - 1 - k) + 8) := by
    rw [Nat.pow_add, Nat.mul_comm]
    exact Nat.mul_lt_mul_of_pos_left (by have := hf k; omega) (Nat.two_pow_pos _)
  have e3 : 2 ^ (8 * (d - 1 - k) + 8) * horn f k = horn f k * 256 * 2 ^ (8 * (d - 1 - k)) := by
    rw [Nat.pow_add, Nat.mul_comm, Nat.mul_comm (2 ^ (8 * (d - 1 - k))) (2 ^ 8), ← Nat.mul_assoc]
  rw [← Nat.two_pow_add_eq_or_of_lt hl, e3]
theorem or_little (f : Nat → Nat) (hf : ∀ i, f i < 256) (k : Nat) : lit f k ||| (f k * 2 ^ (8 * k)) = lit f (k + 1) := by
  have h := lit_lt f hf k
  have e : 256 ^ k = 2 ^ (8 * k) := by rw [show (256 : Nat) = 2 ^ 8 from rfl, ← Nat.pow_mul]
  rw [e] at h
  show _ = lit f k + f k * 256 ^ k
  rw [e, Nat.or_comm, Nat.mul_comm (f k), ← Nat.two_pow_add_eq_or_of_lt h]
  exact Nat.add_comm _ _

theorem horn_wrap (f : Nat → Nat) (hf : ∀ i, f i < 256) (k : Nat) (hk : k + 1 ≤ 8) {b : Nat} (hb : f k = b) : IntKind.u64.wrap (IntKind.u64.wrap ((horn f k : Int) * 256) + IntKind.u64.wrap (b : Int)) = (horn f (k + 1) : Int) := by
  have h := horn_le f hf (k + 1) hk
  have e : horn f (k + 1) = horn f k * 256 + f k := rfl
  have := hf k
  subst hb
  rw [IntKind.wrap_u64, IntKind.wrap_u64, IntKind.wrap_u64]
  omega
theorem u64_same {a b : Int} (h : a = b) : Value.int .u64 a = .int .u64 b := by rw [h]

set_option maxRecDepth 100000 in
set_option maxHeartbeats 1000000 in
theorem refuint_big (s : ByteArray) (hs : s.size ≤ lim) (p d : Nat) (hd : 1 ≤ d) (hd8 : d ≤ 8) (hw : widB (d : Int) = true) (hp : p + d ≤ s.size) (w : World) :
    Calls Tryd.prog 47 #[.string s, .int .i64 p, .int .i64 d, .bool true] w fun e w' => e = .returned (.tuple #[.int .u64 (numAt s p d true), .int .i64 0]) ∧ w = w' := by
  unfold lim at hs
  have t1 : decide ((p : Int) < 0) = false := by simp
  have t2 : decide (s.size < p) = false := by simp; omega
  have t3 : decide ((s.size : Int) - p < d) = false := by simp; omega
  go_enter Tryd.func47, Tryd.ntmps47
  go_wp2_with (go_at_call 51; refine (width_any _ _).mono ?_; rintro e w' ⟨rfl, rfl⟩)
  clear hw
  go_loop [10, 11] (fun n i => ∃ k : Nat, k ≤ d ∧ n = .int .u64 (horn (dig s p d true) k) ∧ i = .int .i64 k) (fun _ i => d - (intOf i).toNat)
  case atStart => exact ⟨0, Nat.zero_le _, rfl, rfl⟩
  case round =>
    obtain ⟨k, hk, rfl, rfl⟩ := hrel
    by_cases hlt : k < d
    · have HH := hid (horn_wrap (dig s p d true) (dig_lt s p d true) k (by omega) (dig_big s p d k (by omega)))
      go_wp2
      all_goals go_round
      case rel => exact ⟨k + 1, by omega, u64_same HH.out, by go_num⟩
      case measure => simp [intOf]; omega
    · obtain rfl : k = d := by omega
      clear hlt hk
      go_wp2
      go_returns
      exact ⟨rfl, rfl⟩

set_option maxRecDepth 100000 in
set_option maxHeartbeats 1000000 in
theorem refuint_little (s : ByteArray) (hs : s.size ≤ lim) (p d : Nat) (hd : 1 ≤ d) (hd8 : d ≤ 8) (hw : widB (d : Int) = true) (hp : p + d ≤ s.size) (w : World) :
    Calls Tryd.prog 47 #[.string s, .int .i64 p, .int .i64 d, .bool false] w fun e w' => e = .returned (.tuple #[.int .u64 (numAt s p d false), .int .i64 0]) ∧ w = w' := by
  unfold lim at hs
  have t1 : decide ((p : Int) < 0) = false := by simp
  have t2 : decide (s.size < p) = false := by simp; omega
  have t3 : decide ((s.size : Int) - p < d) = false := by simp; omega
  go_enter Tryd.func47, Tryd.ntmps47
  go_wp2_with (go_at_call 51; refine (width_any _ _).mono ?_; rintro e w' ⟨rfl, rfl⟩)
  clear hw
  go_loop [10, 11] (fun n i => ∃ k : Nat, k ≤ d ∧ n = .int .u64 (horn (dig s p d false) k) ∧ i = .int .i64 k) (fun _ i => d - (intOf i).toNat)
  case atStart => exact ⟨0, Nat.zero_le _, rfl, rfl⟩
  case round =>
    obtain ⟨k, hk, rfl, rfl⟩ := hrel
    by_cases hlt : k < d
    · have HH := hid (horn_wrap (dig s p d false) (dig_lt s p d false) k (by omega) (dig_little s p d k (by omega)))
      go_wp2
      all_goals go_round
      case rel => exact ⟨k + 1, by omega, u64_same HH.out, by go_num⟩
      case measure => simp [intOf]; omega
    · obtain rfl : k = d := by omega
      clear hlt hk
      go_wp2
      go_returns
      exact ⟨rfl, rfl⟩

set_option maxHeartbeats 1000000 in
theorem refuint_any (s : ByteArray) (hs : s.size ≤ lim) (a d : Int) (big : Bool) (w : World) :
    Calls Tryd.prog 47 #[.string s, .int .i64 a, .int .i64 d, .bool big] w fun e w' => e = .returned (.tuple #[.int .u64 (uintV s a d big), .int .i64 (uintE s.size a d)]) ∧ w = w' := by
  by_cases hw : widB d = true
  · obtain ⟨k, rfl, hk⟩ := wid_cases hw
    have HU := hid (uintE_sub (z := s.size) (a := a) hw)
    by_cases ha : a < 0
    · have HE := hid (HU.out.trans (subE_arg (.inl ha)))
      clear HU
      go_enter Tryd.func47, Tryd.ntmps47
      go_wp2_with (go_at_call 51; refine (width_any _ _).mono ?_; rintro e w' ⟨rfl, rfl⟩)
      go_returns
      exact ⟨ret_u (uintV_bad (by rw [HE.out]; decide)).symm HE.out.symm, rfl⟩
    · obtain ⟨p, rfl⟩ := Int.eq_ofNat_of_zero_le (show 0 ≤ a by omega)
      by_cases hp : p + k ≤ s.size
      · have hE := HU.out.trans (subE_ok (by omega) (by omega))
        have hV := uintV_ok (big := big) hE
        rw [hE, hV]
        simp only [Int.toNat_natCast]
        cases big
        · exact refuint_little s hs p k (by omega) (by omega) hw hp w
        · exact refuint_big s hs p k (by omega) (by omega) hw hp w
      · have HE := hid (HU.out.trans (subE_cut (by omega) (by omega)))
        clear HU
        unfold lim at hs
        by_cases hq : s.size < p
        · have t2 : ((s.size : Int) < (p : Int)) := by omega
          clear hp hk
          go_enter Tryd.func47, Tryd.ntmps47
          go_wp2_with (go_at_call 51; refine (width_any _ _).mono ?_; rintro e w' ⟨rfl, rfl⟩)
          go_returns
          exact ⟨ret_u (uintV_bad (by rw [HE.out]; decide)).symm HE.out.symm, rfl⟩
        · have t2 : ((s.size : Int) - p < k) := by omega
          have t3 : k ≤ 8 := by omega
          clear hp hk
          go_enter Tryd.func47, Tryd.ntmps47
          go_wp2_with (go_at_call 51; refine (width_any _ _).mono ?_; rintro e w' ⟨rfl, rfl⟩)
          go_returns
          exact ⟨ret_u (uintV_bad (by rw [HE.out]; decide)).symm HE.out.symm, rfl⟩
  · have hw1 : widB d = false := by simpa using hw
    have HE := hid (uintE_bad (z := s.size) (a := a) hw1)
    clear hw
    go_enter Tryd.func47, Tryd.ntmps47
    go_wp2_with (go_at_call 51; refine (width_any _ _).mono ?_; rintro e w' ⟨rfl, rfl⟩)
    all_goals go_returns
    all_goals exact ⟨ret_u (uintV_bad (by rw [HE.out]; decide)).symm HE.out.symm, rfl⟩

end Go.Proofs.YtgkgimfdbkpbdaaDoor
