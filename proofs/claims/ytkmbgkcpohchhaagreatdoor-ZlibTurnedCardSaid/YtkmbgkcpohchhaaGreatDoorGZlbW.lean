import Derived.Test.YtkmbgkcpohchhaaGreatDoorRows
import Derived.Test.YtkmbgkcpohchhaaGreatDoorGBase
import Derived.Laws.BitsAllLaws
import Derived.Deep.QuietTactic
import Derived.BigQuiet
import Derived.Deep.RegionWith
import Derived.Test.YtkmbgkcpohchhaaGreatDoorWinM
import Derived.Test.YtkmbgkcpohchhaaGreatDoorInfO
namespace Go.Proofs.YtkmbgkcpohchhaaGreatDoor
open Go.RowKit
set_option linter.unusedVariables false
def widB (n : Int) : Bool := decide (n = 1 ∨ n = 2 ∨ n = 4 ∨ n = 8)
set_option maxHeartbeats 400000 in
theorem isWidth_any (n : Int) (w : World) :
    Calls Tryz.prog 77 #[.int .i64 n] w fun e w' => e = .returned (.bool (widB n)) ∧ w = w' := by
  go_enter Tryz.func77, Tryz.ntmps77
  go_wp2
  all_goals (go_ret; refine ⟨ret_bool ?_, rfl⟩; rw [Bool.eq_iff_iff]; simp [widB]; try omega)
def lim : Nat := 281474976710656
def subE (z : Nat) (at' n : Int) : Int := if at' < 0 ∨ n < 0 then 1 else if (z : Int) < at' ∨ (z : Int) - at' < n then 2 else 0
def subS (s : ByteArray) (at' n : Int) : ByteArray := if subE s.size at' n = 0 then s.extract at'.toNat (at'.toNat + n.toNat) else ByteArray.empty
def subB (z : Nat) (b at' n : Int) : Int := if subE z at' n = 0 then b + at' else 0
theorem subE_arg {z : Nat} {a n : Int} (h : a < 0 ∨ n < 0) : subE z a n = 1 := if_pos h
theorem subE_cut {z : Nat} {a n : Int} (h : ¬ (a < 0 ∨ n < 0)) (k : (z : Int) < a ∨ (z : Int) - a < n) : subE z a n = 2 := by rw [subE, if_neg h, if_pos k]
theorem subE_ok {z : Nat} {a n : Int} (h : ¬ (a < 0 ∨ n < 0)) (k : ¬ ((z : Int) < a ∨ (z : Int) - a < n)) : subE z a n = 0 := by rw [subE, if_neg h, if_neg k]
theorem subS_bad {s : ByteArray} {a n : Int} (h : subE s.size a n ≠ 0) : subS s a n = ByteArray.empty := if_neg h
theorem subS_ok {s : ByteArray} {a n : Int} (h : subE s.size a n = 0) : subS s a n = s.extract a.toNat (a.toNat + n.toNat) := if_pos h
theorem subB_bad {z : Nat} {b a n : Int} (h : subE z a n ≠ 0) : subB z b a n = 0 := if_neg h
theorem subB_ok {z : Nat} {b a n : Int} (h : subE z a n = 0) : subB z b a n = b + a := if_pos h
theorem ret_win {b c : Int} {s t : ByteArray} {e f : Int} (h : b = c) (k : s = t) (l : e = f) : Ending.returned (.tuple #[.agg #[.int .i64 b, .string s], .int .i64 e]) = .returned (.tuple #[.agg #[.int .i64 c, .string t], .int .i64 f]) := by rw [h, k, l]
set_option maxHeartbeats 400000 in
theorem of_any (s : ByteArray) (w : World) :
    Calls Tryz.prog 50 #[.string s] w fun e w' => e = .returned (.agg #[.int .i64 0, .string s]) ∧ Bw w w' := by
  go_enter Tryz.func50, Tryz.ntmps50
  go_wp2
  go_returns
  exact ⟨rfl, by unfold Bw; go_grown⟩
set_option maxHeartbeats 400000 in
theorem len_any (b : Int) (s : ByteArray) (hs : s.size ≤ lim) (w : World) :
    Calls Tryz.prog 112 #[.agg #[.int .i64 b, .string s]] w fun e w' => e = .returned (.int .i64 s.size) ∧ Bw w w' := by
  unfold lim at hs
  go_enter Tryz.func112, Tryz.ntmps112
  go_wp2
  go_returns
  exact ⟨rfl, by unfold Bw; go_grown⟩
set_option maxHeartbeats 1000000 in
theorem sub_any (b : Int) (b0 : 0 ≤ b) (b1 : b ≤ 281474976710656) (s : ByteArray) (hs : s.size ≤ lim) (a n : Int) (w : World) :
    Calls Tryz.prog 81 #[.agg #[.int .i64 b, .string s], .int .i64 a, .int .i64 n] w fun e w' => e = .returned (.tuple #[.agg #[.int .i64 (subB s.size b a n), .string (subS s a n)], .int .i64 (subE s.size a n)]) ∧ Bw w w' := by
  unfold lim at hs
  by_cases ha : a < 0
  · have HK := hid (subE_arg (z := s.size) (a := a) (n := n) (.inl ha))
    go_enter Tryz.func81, Tryz.ntmps81
    go_wp2
    go_returns
    exact ⟨ret_win (subB_bad (by rw [HK.out]; decide)).symm (subS_bad (by rw [HK.out]; decide)).symm HK.out.symm, by unfold Bw; go_grown⟩
  · by_cases hn : n < 0
    · have HK := hid (subE_arg (z := s.size) (a := a) (n := n) (.inr hn))
      go_enter Tryz.func81, Tryz.ntmps81
      go_wp2
      go_returns
      exact ⟨ret_win (subB_bad (by rw [HK.out]; decide)).symm (subS_bad (by rw [HK.out]; decide)).symm HK.out.symm, by unfold Bw; go_grown⟩
    · by_cases hc : (s.size : Int) < a
      · have HK := hid (subE_cut (z := s.size) (a := a) (n := n) (by omega) (.inl hc))
        go_enter Tryz.func81, Tryz.ntmps81
        go_wp2
        go_returns
        exact ⟨ret_win (subB_bad (by rw [HK.out]; decide)).symm (subS_bad (by rw [HK.out]; decide)).symm HK.out.symm, by unfold Bw; go_grown⟩
      · by_cases hd : (s.size : Int) - a < n
        · have HK := hid (subE_cut (z := s.size) (a := a) (n := n) (by omega) (.inr hd))
          go_enter Tryz.func81, Tryz.ntmps81
          go_wp2
          go_returns
          exact ⟨ret_win (subB_bad (by rw [HK.out]; decide)).symm (subS_bad (by rw [HK.out]; decide)).symm HK.out.symm, by unfold Bw; go_grown⟩
        · have HK := hid (subE_ok (z := s.size) (a := a) (n := n) (by omega) (by omega))
          obtain ⟨p, rfl⟩ := Int.eq_ofNat_of_zero_le (show 0 ≤ a by omega)
          obtain ⟨k, rfl⟩ := Int.eq_ofNat_of_zero_le (show 0 ≤ n by omega)
          go_enter Tryz.func81, Tryz.ntmps81
          go_wp2
          go_region
          go_wp2
          go_returns
          exact ⟨ret_win (subB_ok HK.out).symm (subS_ok HK.out).symm HK.out.symm, by unfold Bw; go_grown⟩
set_option maxHeartbeats 400000 in
theorem big_any (width i : Int) (w0 : 1 ≤ width) (w1 : width ≤ 8) (i0 : 0 ≤ i) (i1 : i < width) (a : Addr) (w : World) (hc : w.cell? a = some (.int .i64 width)) :
    Calls Tryz.prog 110 #[.int .i64 i, .pointer (some a)] w fun e w' => e = .returned (.int .i64 (8 * (width - 1 - i))) ∧ w = w' := by
  go_enter Tryz.func110, Tryz.ntmps110
  go_wp2
  go_returns
  exact ⟨rfl, rfl⟩
set_option maxHeartbeats 400000 in
theorem little_any (i : Int) (i0 : 0 ≤ i) (i1 : i < 8) (w : World) :
    Calls Tryz.prog 111 #[.int .i64 i] w fun e w' => e = .returned (.int .i64 (8 * i)) ∧ w = w' := by
  go_enter Tryz.func111, Tryz.ntmps111
  go_wp2
  go_returns
  exact ⟨rfl, rfl⟩
set_option maxHeartbeats 400000 in
theorem order_big (width : Int) (w : World) :
    Calls Tryz.prog 78 #[.int .i64 width, .bool true] w fun e w' => e = .returned (.func (.func 110) #[] #[.pointer (some ⟨w.heap.size, 0, none⟩)]) ∧ w.alloc (.cells #[.int .i64 width] 3) = w' := by
  have hmf : ∀ (fn : Fn) (first cap : Array Value) (w : World), (Instr.makeFunc fn first cap).run Tryz.prog w = .ok (.func fn first cap) w := fun _ _ _ _ => rfl
  go_enter Tryz.func78, Tryz.ntmps78
  go_wp2
  go_returns
  exact ⟨rfl, rfl⟩
set_option maxHeartbeats 400000 in
theorem order_little (width : Int) (w : World) :
    Calls Tryz.prog 78 #[.int .i64 width, .bool false] w fun e w' => e = .returned (.func (.func 111) #[] #[]) ∧ w.alloc (.cells #[.int .i64 width] 3) = w' := by
  have hmf : ∀ (fn : Fn) (first cap : Array Value) (w : World), (Instr.makeFunc fn first cap).run Tryz.prog w = .ok (.func fn first cap) w := fun _ _ _ _ => rfl
  go_enter Tryz.func78, Tryz.ntmps78
  go_wp2
  go_returns
  exact ⟨rfl, rfl⟩
theorem wid_cases {d : Int} (h : widB d = true) : ∃ k : Nat, d = (k : Int) ∧ (k = 1 ∨ k = 2 ∨ k = 4 ∨ k = 8) := by
  simp only [widB, decide_eq_true_eq] at h
  exact ⟨d.toNat, by omega, by omega⟩
def bt (s : ByteArray) (i : Nat) : Nat := if h : i < s.size then s[i].toNat else 0
theorem bt_eq (s : ByteArray) (i : Nat) (h : i < s.size) : bt s i = (s[i]'h).toNat := by simp [bt, h]
theorem bt_lt (s : ByteArray) (i : Nat) : bt s i < 256 := by
  unfold bt
  split
  · exact UInt8.toNat_lt _
  · omega
def horn (f : Nat → Nat) : Nat → Nat
  | 0 => 0
  | k + 1 => horn f k * 256 + f k
theorem horn_lt (f : Nat → Nat) (hf : ∀ i, f i < 256) (k : Nat) : horn f k < 256 ^ k := by
  induction k with
  | zero => simp [horn]
  | succ k ih => rw [horn, Nat.pow_succ]; have := hf k; omega
theorem horn_congr {f g : Nat → Nat} (k : Nat) (h : ∀ i, i < k → f i = g i) : horn f k = horn g k := by
  induction k with
  | zero => rfl
  | succ k ih => rw [horn, horn, ih (fun i hi => h i (by omega)), h k (by omega)]
def lit (f : Nat → Nat) : Nat → Nat
  | 0 => 0
  | k + 1 => lit f k + f k * 256 ^ k
theorem lit_lt (f : Nat → Nat) (hf : ∀ i, f i < 256) (k : Nat) : lit f k < 256 ^ k := by
  induction k with
  | zero => simp [lit]
  | succ k ih =>
    rw [lit, Nat.pow_succ]
    have := hf k
    have : f k * 256 ^ k ≤ 255 * 256 ^ k := Nat.mul_le_mul_right _ (by omega)
    omega
theorem lit_front (f : Nat → Nat) (k : Nat) : lit f (k + 1) = f 0 + 256 * lit (fun i => f (i + 1)) k := by
  induction k with
  | zero => simp [lit]
  | succ k ih =>
    rw [lit, ih, lit, Nat.mul_add, Nat.pow_succ]
    have : f (k + 1) * (256 ^ k * 256) = 256 * (f (k + 1) * 256 ^ k) := by rw [← Nat.mul_assoc, Nat.mul_comm]
    omega
theorem horn_rev (k : Nat) : ∀ f : Nat → Nat, horn (fun i => f (k - 1 - i)) k = lit f k := by
  induction k with
  | zero => intro f; rfl
  | succ k ih =>
    intro f
    rw [horn, lit_front, ← ih (fun i => f (i + 1))]
    have e : horn (fun i => f (k + 1 - 1 - i)) k = horn (fun i => f (k - 1 - i + 1)) k := horn_congr k fun i hi => by
      show f (k + 1 - 1 - i) = f (k - 1 - i + 1)
      rw [show k + 1 - 1 - i = k - 1 - i + 1 by omega]
    rw [e]
    simp
    omega
def dig (s : ByteArray) (p d : Nat) (big : Bool) (i : Nat) : Nat := bt s (if big then p + i else p + d - 1 - i)
def numAt (s : ByteArray) (p d : Nat) (big : Bool) : Nat := horn (dig s p d big) d
def uintE (z : Nat) (a d : Int) : Int := if widB d = true then subE z a d else 1
def uintV (s : ByteArray) (a d : Int) (big : Bool) : Int := if uintE s.size a d = 0 then (numAt s a.toNat d.toNat big : Int) else 0
theorem uintE_bad {z : Nat} {a d : Int} (h : widB d = false) : uintE z a d = 1 := by simp [uintE, h]
theorem uintE_sub {z : Nat} {a d : Int} (h : widB d = true) : uintE z a d = subE z a d := by simp [uintE, h]
theorem uintV_bad {s : ByteArray} {a d : Int} {big : Bool} (h : uintE s.size a d ≠ 0) : uintV s a d big = 0 := if_neg h
theorem uintV_ok {s : ByteArray} {a d : Int} {big : Bool} (h : uintE s.size a d = 0) : uintV s a d big = numAt s a.toNat d.toNat big := if_pos h
theorem ret_u {n m : Int} {e f : Int} (h : n = m) (k : e = f) : Ending.returned (.tuple #[.int .u64 n, .int .i64 e]) = .returned (.tuple #[.int .u64 m, .int .i64 f]) := by rw [h, k]
theorem or_big (f : Nat → Nat) (hf : ∀ i, f i < 256) (d k : Nat) (hk : k < d) :
    (horn f k * 256 ^ (d - k)) ||| (f k * 2 ^ (8 * (d - 1 - k))) = horn f (k + 1) * 256 ^ (d - (k + 1)) := by
  have e1 : 256 ^ (d - k) = 2 ^ (8 * (d - 1 - k) + 8) := by
    rw [show (256 : Nat) = 2 ^ 8 from rfl, ← Nat.pow_mul, show 8 * (d - k) = 8 * (d - 1 - k) + 8 by omega]
  have e2 : 256 ^ (d - (k + 1)) = 2 ^ (8 * (d - 1 - k)) := by
    rw [show (256 : Nat) = 2 ^ 8 from rfl, ← Nat.pow_mul, show 8 * (d - (k + 1)) = 8 * (d - 1 - k) by omega]
  rw [e1, e2, horn, Nat.add_mul, Nat.mul_comm (horn f k)]
  have hl : f k * 2 ^ (8 * (d - 1 - k)) < 2 ^ (8 * (d - 1 - k) + 8) := by
    rw [Nat.pow_add, Nat.mul_comm]
    exact Nat.mul_lt_mul_of_pos_left (by have := hf k; omega) (Nat.two_pow_pos _)
  have e3 : 2 ^ (8 * (d - 1 - k) + 8) * horn f k = horn f k * 256 * 2 ^ (8 * (d - 1 - k)) := by
    rw [Nat.pow_add, Nat.mul_comm, Nat.mul_comm (2 ^ (8 * (d - 1 - k))) (2 ^ 8), ← Nat.mul_assoc]
  rw [← Nat.two_pow_add_eq_or_of_lt hl, e3]
theorem or_little (f : Nat → Nat) (hf : ∀ i, f i < 256) (k : Nat) : lit f k ||| (f k * 2 ^ (8 * k)) = lit f (k + 1) := by
  have h := lit_lt f hf k
  have e : 256 ^ k = 2 ^ (8 * k) := by rw [show (256 : Nat) = 2 ^ 8 from rfl, ← Nat.pow_mul]
  rw [e] at h
  show _ = lit f k + f k * 256 ^ k
  rw [e, Nat.or_comm, Nat.mul_comm (f k), ← Nat.two_pow_add_eq_or_of_lt h]
  exact Nat.add_comm _ _
theorem u64_same {a b : Int} (h : a = b) : Value.int .u64 a = .int .u64 b := by rw [h]

end Go.Proofs.YtkmbgkcpohchhaaGreatDoor
namespace Go.Proofs.YtkmbgkcpohchhaaGreatDoor
open Go.RowKit
set_option linter.unusedVariables false
def byt (s : ByteArray) (k : Nat) : Nat := (s.data.toList.getD k 0).toNat
theorem byt_lt (s : ByteArray) (k : Nat) : byt s k < 256 := UInt8.toNat_lt _
theorem byt_at (s : ByteArray) (k : Nat) (h : k < s.size) : byt s k = s[k].toNat := by
  have hl : k < s.data.toList.length := by simpa using h
  unfold byt; rw [List.getD_eq_getElem?_getD, List.getElem?_eq_getElem hl]; rfl
def adX (x : Nat) (s : ByteArray) : Nat → Nat
  | 0 => x
  | k + 1 => (adX x s k + byt s k) % 65521
def adY (x y : Nat) (s : ByteArray) : Nat → Nat
  | 0 => y
  | k + 1 => (adY x y s k + adX x s (k + 1)) % 65521
theorem adX_lt {x : Nat} (h : x < 65521) (s : ByteArray) (k : Nat) : adX x s k < 65521 := by
  cases k with
  | zero => exact h
  | succ k => exact Nat.mod_lt _ (by decide)
theorem adY_lt {x y : Nat} (h : y < 65521) (s : ByteArray) (k : Nat) : adY x y s k < 65521 := by
  cases k with
  | zero => exact h
  | succ k => exact Nat.mod_lt _ (by decide)
theorem adX_succ (x : Nat) (s : ByteArray) (k : Nat) : adX x s (k + 1) = (adX x s k + byt s k) % 65521 := rfl
theorem adY_succ (x y : Nat) (s : ByteArray) (k : Nat) : adY x y s (k + 1) = (adY x y s k + adX x s (k + 1)) % 65521 := rfl
def adlN (a : Nat) (s : ByteArray) : Nat := 65536 * adY (a % 65536 % 65521) (a / 65536 % 65521) s s.size + adX (a % 65536 % 65521) s s.size
theorem adlN_lt (a : Nat) (s : ByteArray) : adlN a s < 4294967296 := by
  have h1 := adX_lt (x := a % 65536 % 65521) (Nat.mod_lt _ (by decide)) s s.size
  have h2 := adY_lt (x := a % 65536 % 65521) (y := a / 65536 % 65521) (Nat.mod_lt _ (by decide)) s s.size
  unfold adlN; omega
theorem ret_u32 {a b : Int} (h : a = b) : Ending.returned (.int .u32 a) = .returned (.int .u32 b) := by rw [h]
theorem byt_hid (s : ByteArray) (k : Nat) (h : k < s.size) : Hid (s[k].toNat = byt s k) := hid (byt_at s k h).symm
set_option maxHeartbeats 400000 in
theorem adler_more_any (a : Nat) (ha : a < 4294967296) (s : ByteArray) (hs : s.size ≤ lim) (w : World) :
    Calls Tryz.prog 79 #[.int .u32 a, .string s] w fun e w' => e = .returned (.int .u32 (adlN a s : Nat)) ∧ w = w' := by
  unfold lim at hs
  go_enter Tryz.func79, Tryz.ntmps79
  go_wp2
  go_loop [5, 6, 16] (fun x y i => ∃ k : Nat, k ≤ s.size ∧ i = .int .i64 k ∧ x = .int .u32 (adX (a % 65536 % 65521) s k : Nat) ∧ y = .int .u32 (adY (a % 65536 % 65521) (a / 65536 % 65521) s k : Nat)) (fun _ _ i => s.size - (intOf i).toNat)
  case atStart => exact ⟨0, Nat.zero_le _, rfl, rfl, rfl⟩
  case round =>
    obtain ⟨k, hk, rfl, rfl, rfl⟩ := hrel
    have h1 := adX_lt (x := a % 65536 % 65521) (Nat.mod_lt _ (by decide)) s k
    have h2 := adY_lt (x := a % 65536 % 65521) (y := a / 65536 % 65521) (Nat.mod_lt _ (by decide)) s k
    by_cases hlt : k < s.size
    · have HX := hid (adX_succ (a % 65536 % 65521) s k)
      have HY := hid (adY_succ (a % 65536 % 65521) (a / 65536 % 65521) s k)
      have h3 := byt_lt s k
      have HB := byt_hid s k hlt
      rw [← HB.out] at h3
      have h4 := adX_lt (x := a % 65536 % 65521) (Nat.mod_lt _ (by decide)) s (k + 1)
      go_wp2
      go_round
      case rel => exact ⟨k + 1, by omega, by go_num, by rw [HX.out, ← HB.out]; rfl, by rw [HY.out, HX.out, ← HB.out]; rfl⟩
      case measure => simp [intOf]; omega
    · obtain rfl : s.size = k := by omega
      go_wp2
      go_ret
      exact ⟨ret_u32 (by unfold adlN; omega), rfl⟩
set_option maxHeartbeats 400000 in
theorem refadler_more_any (a : Nat) (ha : a < 4294967296) (s : ByteArray) (hs : s.size ≤ lim) (w : World) :
    Calls Tryz.prog 49 #[.int .u32 a, .string s] w fun e w' => e = .returned (.int .u32 (adlN a s : Nat)) ∧ w = w' := by
  unfold lim at hs
  go_enter Tryz.func49, Tryz.ntmps49
  go_wp2
  go_loop [5, 6, 7] (fun x y i => ∃ k : Nat, k ≤ s.size ∧ i = .int .i64 k ∧ x = .int .u32 (adX (a % 65536 % 65521) s k : Nat) ∧ y = .int .u32 (adY (a % 65536 % 65521) (a / 65536 % 65521) s k : Nat)) (fun _ _ i => s.size - (intOf i).toNat)
  case atStart => exact ⟨0, Nat.zero_le _, rfl, rfl, rfl⟩
  case round =>
    obtain ⟨k, hk, rfl, rfl, rfl⟩ := hrel
    have h1 := adX_lt (x := a % 65536 % 65521) (Nat.mod_lt _ (by decide)) s k
    have h2 := adY_lt (x := a % 65536 % 65521) (y := a / 65536 % 65521) (Nat.mod_lt _ (by decide)) s k
    by_cases hlt : k < s.size
    · have HX := hid (adX_succ (a % 65536 % 65521) s k)
      have HY := hid (adY_succ (a % 65536 % 65521) (a / 65536 % 65521) s k)
      have h3 := byt_lt s k
      have HB := byt_hid s k hlt
      rw [← HB.out] at h3
      have h4 := adX_lt (x := a % 65536 % 65521) (Nat.mod_lt _ (by decide)) s (k + 1)
      go_wp2
      go_round
      case rel => exact ⟨k + 1, by omega, by go_num, by rw [HX.out, ← HB.out]; rfl, by rw [HY.out, HX.out, ← HB.out]; rfl⟩
      case measure => simp [intOf]; omega
    · obtain rfl : s.size = k := by omega
      go_wp2
      go_ret
      exact ⟨ret_u32 (by unfold adlN; omega), rfl⟩
set_option maxHeartbeats 400000 in
theorem adler_any (s : ByteArray) (hs : s.size ≤ lim) (w : World)  :
    Calls Tryz.prog 48 #[.string s] w fun e w' => e = .returned (.int .u32 (adlN 1 s : Nat)) ∧ w = w' := by
  go_enter Tryz.func48, Tryz.ntmps48
  go_wp2_with fail
  refine (adler_more_any 1 (by decide) s hs _).mono ?_
  rintro e w' ⟨rfl, rfl⟩
  go_wp2
  go_ret
  exact ⟨rfl, rfl⟩
set_option maxHeartbeats 400000 in
theorem refadler_any (s : ByteArray) (hs : s.size ≤ lim) (w : World)  :
    Calls Tryz.prog 22 #[.string s] w fun e w' => e = .returned (.int .u32 (adlN 1 s : Nat)) ∧ w = w' := by
  go_enter Tryz.func22, Tryz.ntmps22
  go_wp2_with fail
  refine (refadler_more_any 1 (by decide) s hs _).mono ?_
  rintro e w' ⟨rfl, rfl⟩
  go_wp2
  go_ret
  exact ⟨rfl, rfl⟩

end Go.Proofs.YtkmbgkcpohchhaaGreatDoor
namespace Go.Proofs.YtkmbgkcpohchhaaGreatDoor
open Go.RowKit
set_option linter.unusedVariables false
theorem sub_fits (b : Int) (b0 : 0 ≤ b) (b1 : b ≤ 281474976710656) (s : ByteArray) (hs : s.size ≤ lim) (p k : Nat) (hp : p + k ≤ s.size) (T : ByteArray) (hT : Hid (s.extract p (p + k) = T)) (w : World) :
    Calls Tryz.prog 81 #[.agg #[.int .i64 b, .string s], .int .i64 p, .int .i64 k] w fun e w' => e = .returned (.tuple #[.agg #[.int .i64 (b + p), .string T], .int .i64 0]) ∧ Bw w w' := by
  have hE : subE s.size (p : Int) (k : Int) = 0 := subE_ok (by omega) (by omega)
  have h := sub_any b b0 b1 s hs p k w
  rw [subB_ok hE, subS_ok hE, hE] at h
  simp only [Int.toNat_natCast] at h
  rw [hT.out] at h
  exact h
theorem bt_extract (s : ByteArray) (p k i : Nat) (hp : p + k ≤ s.size) (hi : i < k) : bt (s.extract p (p + k)) i = bt s (p + i) := by
  have hz : (s.extract p (p + k)).size = k := by simp; omega
  rw [bt_eq _ i (by omega), bt_eq s (p + i) (by omega), ByteArray.getElem_extract]
theorem wrap_shl {b : Nat} (hb : b < 256) (e : Nat) (he : e ≤ 56) : IntKind.u64.wrap ((b : Int) * 2 ^ e) = ((b * 2 ^ e : Nat) : Int) := by
  have h2 : 2 ^ e ≤ 2 ^ 56 := Nat.pow_le_pow_right (by omega) he
  have h3 : b * 2 ^ e ≤ 255 * 2 ^ 56 := Nat.mul_le_mul (by omega) h2
  have e1 : ((b * 2 ^ e : Nat) : Int) = (b : Int) * 2 ^ e := by simp
  rw [← e1, IntKind.wrap_u64]
  omega
def accB (T : ByteArray) (d : Nat) (big : Bool) (k : Nat) : Nat := if big then horn (bt T) k * 256 ^ (d - k) else lit (bt T) k
theorem accB_zero (T : ByteArray) (d : Nat) (big : Bool) : accB T d big 0 = 0 := by cases big <;> simp [accB, horn, lit]
theorem accB_lt (T : ByteArray) (d : Nat) (big : Bool) (k : Nat) (hk : k ≤ d) (hd : d ≤ 8) : accB T d big k < 18446744073709551616 := by
  have h8 : 256 ^ d ≤ 256 ^ 8 := Nat.pow_le_pow_right (by omega) hd
  cases big
  · have h := lit_lt (bt T) (bt_lt T) k
    have h2 : 256 ^ k ≤ 256 ^ d := Nat.pow_le_pow_right (by omega) hk
    simp only [accB, Bool.false_eq_true, if_false]
    omega
  · have h := horn_lt (bt T) (bt_lt T) k
    have h2 : horn (bt T) k * 256 ^ (d - k) < 256 ^ k * 256 ^ (d - k) := Nat.mul_lt_mul_of_pos_right h (Nat.pow_pos (by omega))
    rw [← Nat.pow_add, show k + (d - k) = d by omega] at h2
    simp only [accB, if_true]
    omega
theorem byte_wrap {b : Nat} (h : b < 256) : IntKind.u64.wrap (b : Int) = b := by rw [IntKind.wrap_u64]; omega
theorem or_step {T : ByteArray} {d k b : Nat} {big : Bool} (hk : k < d) (hd : d ≤ 8) (hb : bt T k = b) (e : Nat) (he : e = if big then 8 * (d - 1 - k) else 8 * k) :
    bits .or .u64 (accB T d big k : Int) (IntKind.u64.wrap (IntKind.u64.wrap (b : Int) * 2 ^ e)) = (accB T d big (k + 1) : Int) := by
  have hb1 : b < 256 := hb ▸ bt_lt T k
  have he1 : e ≤ 56 := by subst he; split <;> omega
  have hz : b * 2 ^ e ≤ 255 * 2 ^ 56 := Nat.mul_le_mul (by omega) (Nat.pow_le_pow_right (by omega) he1)
  rw [byte_wrap hb1, wrap_shl hb1 e he1, u64_or_nat _ _ (accB_lt T d big k (by omega) hd) (by omega)]
  subst he hb
  cases big
  · simp only [accB, Bool.false_eq_true, if_false]
    rw [or_little (bt T) (bt_lt T) k]
  · simp only [accB, if_true]
    rw [or_big (bt T) (bt_lt T) d k hk]
theorem accB_full (s : ByteArray) (p d : Nat) (big : Bool) (hp : p + d ≤ s.size) (T : ByteArray) (hT : s.extract p (p + d) = T) : accB T d big d = numAt s p d big := by
  subst hT
  cases big
  · simp only [accB, Bool.false_eq_true, if_false, numAt]
    rw [← horn_rev]
    refine horn_congr d fun i hi => ?_
    rw [bt_extract s p d _ hp (by omega), dig, if_neg (by decide), show p + (d - 1 - i) = p + d - 1 - i by omega]
  · simp only [accB, if_true, numAt, Nat.sub_self, Nat.pow_zero, Nat.mul_one]
    refine horn_congr d fun i hi => ?_
    rw [bt_extract s p d _ hp hi, dig, if_pos rfl]
set_option maxRecDepth 100000 in
set_option maxHeartbeats 1000000 in
theorem numberW_big (b : Int) (b0 : 0 ≤ b) (b1 : b ≤ 281474976710656) (s : ByteArray) (hs : s.size ≤ lim) (p d : Nat) (hd : 1 ≤ d) (hd8 : d ≤ 8) (hp : p + d ≤ s.size)
    (T : ByteArray) (hT : Hid (s.extract p (p + d) = T)) (hT1 : T.size ≤ d) (hT2 : d ≤ T.size) (c : Addr) (w : World) (hb : c.block < w.heap.size) (hc : w.cell? c = some (.int .i64 d)) :
    Calls Tryz.prog 80 #[.func (.func 81) #[.agg #[.int .i64 b, .string s]] #[], .int .i64 p, .int .i64 d, .func (.func 110) #[] #[.pointer (some c)]] w
      fun e w' => e = .returned (.tuple #[.int .u64 (numAt s p d true), .int .i64 0]) ∧ Bw w w' := by
  have Hs := hid hs
  have Hfull := hid (accB_full s p d true hp T hT.out)
  unfold lim at hs
  go_enter Tryz.func80, Tryz.ntmps80
  go_wp2_with (first | (go_at_call 81; refine (sub_fits b b0 b1 s Hs.out p d hp T hT _).mono ?_; rintro e w1 ⟨rfl, hw1⟩) | (go_at_call 112; refine (len_any _ _ (by unfold lim; omega) _).mono ?_; rintro e w2 ⟨rfl, hw2⟩))
  have hz1 : w.heap.size ≤ w1.heap.size := hw1.size
  have hbel2 : Below w.heap.size w w2 := (Below.alloc hw1 hz1 _).trans (Below.mono hw2 (by simp; omega))
  have hH2 : Has w2 w1.heap.size 103 #[.int .i64 (b + p), .string T] := (Has.new w1 _ _).below hw2 (by simp)
  clear hw1 hw2
  go_loopw [12, 26] (fun n i wr => ∃ k : Nat, k ≤ d ∧ n = .int .u64 (accB T d true k) ∧ i = .int .i64 k ∧ Has wr w1.heap.size 103 #[.int .i64 (b + p), .string T] ∧ Below w.heap.size w wr)
    (fun _ i _ => d - (intOf i).toNat)
  case atStart => exact ⟨0, Nat.zero_le _, by rw [accB_zero]; rfl, rfl, hH2, hbel2⟩
  case round =>
    obtain ⟨k, hk, rfl, rfl, hH, hbel⟩ := hrel
    have hcc := (hbel.cell hb).trans hc
    have hc1 := hH.cell 1
    have hcT : wr.cell? ⟨w1.heap.size, 1, none⟩ = some (.string T) := hc1
    clear hc1 hH2 hbel2
    by_cases hlt : k < d
    · have E1 := hid (or_step (T := T) (d := d) (k := k) (big := true) hlt hd8 (bt_eq T k (by omega)) (8 * (d - 1 - k)) (by simp))
      clear hc
      go_wp2_with fail
      go_quiet ((go_at_call 110; refine Calls.quiet_of_same ((big_any d k (by omega) (by omega) (by omega) (by omega) _ _ ?_).mono fun _ _ hh => ⟨hh.1, hh.2.symm⟩); exact hcc))
      go_wp2
      all_goals go_roundw
      case rel => exact ⟨k + 1, by omega, u64_same E1.out, by go_num, hH.drewN _, below_drewN hbel _⟩
      case measure => simp [intOf]; omega
    · obtain rfl : k = d := by omega
      clear hc
      clear hlt hk
      go_wp2
      go_returns
      exact ⟨ret_u (by rw [Hfull.out]) rfl, Bw.at_end hbel⟩
set_option maxRecDepth 100000 in
set_option maxHeartbeats 1000000 in
theorem numberW_little (b : Int) (b0 : 0 ≤ b) (b1 : b ≤ 281474976710656) (s : ByteArray) (hs : s.size ≤ lim) (p d : Nat) (hd : 1 ≤ d) (hd8 : d ≤ 8) (hp : p + d ≤ s.size)
    (T : ByteArray) (hT : Hid (s.extract p (p + d) = T)) (hT1 : T.size ≤ d) (hT2 : d ≤ T.size) (w : World) :
    Calls Tryz.prog 80 #[.func (.func 81) #[.agg #[.int .i64 b, .string s]] #[], .int .i64 p, .int .i64 d, .func (.func 111) #[] #[]] w
      fun e w' => e = .returned (.tuple #[.int .u64 (numAt s p d false), .int .i64 0]) ∧ Bw w w' := by
  have Hs := hid hs
  have Hfull := hid (accB_full s p d false hp T hT.out)
  unfold lim at hs
  go_enter Tryz.func80, Tryz.ntmps80
  go_wp2_with (first | (go_at_call 81; refine (sub_fits b b0 b1 s Hs.out p d hp T hT _).mono ?_; rintro e w1 ⟨rfl, hw1⟩) | (go_at_call 112; refine (len_any _ _ (by unfold lim; omega) _).mono ?_; rintro e w2 ⟨rfl, hw2⟩))
  have hz1 : w.heap.size ≤ w1.heap.size := hw1.size
  have hbel2 : Below w.heap.size w w2 := (Below.alloc hw1 hz1 _).trans (Below.mono hw2 (by simp; omega))
  have hH2 : Has w2 w1.heap.size 103 #[.int .i64 (b + p), .string T] := (Has.new w1 _ _).below hw2 (by simp)
  clear hw1 hw2
  go_loopw [12, 26] (fun n i wr => ∃ k : Nat, k ≤ d ∧ n = .int .u64 (accB T d false k) ∧ i = .int .i64 k ∧ Has wr w1.heap.size 103 #[.int .i64 (b + p), .string T] ∧ Below w.heap.size w wr)
    (fun _ i _ => d - (intOf i).toNat)
  case atStart => exact ⟨0, Nat.zero_le _, by rw [accB_zero]; rfl, rfl, hH2, hbel2⟩
  case round =>
    obtain ⟨k, hk, rfl, rfl, hH, hbel⟩ := hrel
    skip
    have hc1 := hH.cell 1
    have hcT : wr.cell? ⟨w1.heap.size, 1, none⟩ = some (.string T) := hc1
    clear hc1 hH2 hbel2
    by_cases hlt : k < d
    · have E1 := hid (or_step (T := T) (d := d) (k := k) (big := false) hlt hd8 (bt_eq T k (by omega)) (8 * k) (by simp))
      skip
      go_wp2_with fail
      go_quiet ((go_at_call 111; refine Calls.quiet_of_same ((little_any k (by omega) (by omega) _).mono fun _ _ hh => ⟨hh.1, hh.2.symm⟩)))
      go_wp2
      all_goals go_roundw
      case rel => exact ⟨k + 1, by omega, u64_same E1.out, by go_num, hH.drewN _, below_drewN hbel _⟩
      case measure => simp [intOf]; omega
    · obtain rfl : k = d := by omega
      skip
      clear hlt hk
      go_wp2
      go_returns
      exact ⟨ret_u (by rw [Hfull.out]) rfl, Bw.at_end hbel⟩
set_option maxHeartbeats 1000000 in
theorem numberW_bad (b : Int) (b0 : 0 ≤ b) (b1 : b ≤ 281474976710656) (s : ByteArray) (hs : s.size ≤ lim) (a d : Int) (hE : (subE s.size a d != 0) = true) (f : Value) (w : World) :
    Calls Tryz.prog 80 #[.func (.func 81) #[.agg #[.int .i64 b, .string s]] #[], .int .i64 a, .int .i64 d, f] w
      fun e w' => e = .returned (.tuple #[.int .u64 0, .int .i64 (subE s.size a d)]) ∧ Bw w w' := by
  go_enter Tryz.func80, Tryz.ntmps80
  go_wp2_with (go_at_call 81; refine (sub_any b b0 b1 s hs a d _).mono ?_; rintro e w1 ⟨rfl, hw1⟩)
  go_returns
  exact ⟨rfl, Below.alloc hw1 hw1.size _⟩

end Go.Proofs.YtkmbgkcpohchhaaGreatDoor
namespace Go.Proofs.YtkmbgkcpohchhaaGreatDoor
open Go.RowKit
set_option linter.unusedVariables false
set_option maxRecDepth 100000 in
set_option maxHeartbeats 1000000 in
theorem uint_big (b : Int) (b0 : 0 ≤ b) (b1 : b ≤ 281474976710656) (s : ByteArray) (hs : s.size ≤ lim) (p d : Nat) (hd1 : 1 ≤ d) (hd2 : d ≤ 8) (hw : widB (d : Int) = true) (hpd : p + d ≤ s.size) (w : World) :
    Calls Tryz.prog 51 #[.agg #[.int .i64 b, .string s], .int .i64 p, .int .i64 d, .bool true] w fun e w' => e = .returned (.tuple #[.int .u64 (numAt s p d true), .int .i64 0]) ∧ Bw w w' := by
  have hmf : ∀ (fn : Fn) (first cap : Array Value) (w : World), (Instr.makeFunc fn first cap).run Tryz.prog w = .ok (.func fn first cap) w := fun _ _ _ _ => rfl
  obtain ⟨T, hT0⟩ : ∃ T, s.extract p (p + d) = T := ⟨_, rfl⟩
  have hTs : T.size = d := by rw [← hT0]; simp; omega
  have hT := hid hT0
  have hT1 : T.size ≤ d := by omega
  have hT2 : d ≤ T.size := by omega
  clear hT0 hTs
  have Hs := hid hs
  go_enter Tryz.func51, Tryz.ntmps51
  go_wp2_with (go_at_call 77; refine (isWidth_any _ _).mono ?_; rintro e w' ⟨rfl, rfl⟩)
  go_region_with (first | (go_at_call 78; refine (order_big _ _).mono ?_; rintro e w1 ⟨rfl, rfl⟩) | (go_at_call 80; refine (numberW_big b b0 b1 s Hs.out p d hd1 hd2 hpd T hT hT1 hT2 _ _ ?_ ?_).mono ?_; (simp); (simp); rintro e w2 ⟨rfl, hw2⟩))
  all_goals go_wp2
  all_goals go_returns
  all_goals refine ⟨rfl, Below.trans ?_ (Below.mono hw2 ?_)⟩
  all_goals first | go_grown | (simp; try omega)
set_option maxRecDepth 100000 in
set_option maxHeartbeats 1000000 in
theorem uint_little (b : Int) (b0 : 0 ≤ b) (b1 : b ≤ 281474976710656) (s : ByteArray) (hs : s.size ≤ lim) (p d : Nat) (hd1 : 1 ≤ d) (hd2 : d ≤ 8) (hw : widB (d : Int) = true) (hpd : p + d ≤ s.size) (w : World) :
    Calls Tryz.prog 51 #[.agg #[.int .i64 b, .string s], .int .i64 p, .int .i64 d, .bool false] w fun e w' => e = .returned (.tuple #[.int .u64 (numAt s p d false), .int .i64 0]) ∧ Bw w w' := by
  have hmf : ∀ (fn : Fn) (first cap : Array Value) (w : World), (Instr.makeFunc fn first cap).run Tryz.prog w = .ok (.func fn first cap) w := fun _ _ _ _ => rfl
  obtain ⟨T, hT0⟩ : ∃ T, s.extract p (p + d) = T := ⟨_, rfl⟩
  have hTs : T.size = d := by rw [← hT0]; simp; omega
  have hT := hid hT0
  have hT1 : T.size ≤ d := by omega
  have hT2 : d ≤ T.size := by omega
  clear hT0 hTs
  have Hs := hid hs
  go_enter Tryz.func51, Tryz.ntmps51
  go_wp2_with (go_at_call 77; refine (isWidth_any _ _).mono ?_; rintro e w' ⟨rfl, rfl⟩)
  go_region_with (first | (go_at_call 78; refine (order_little _ _).mono ?_; rintro e w1 ⟨rfl, rfl⟩) | (go_at_call 80; refine (numberW_little b b0 b1 s Hs.out p d hd1 hd2 hpd T hT hT1 hT2 _).mono ?_; rintro e w2 ⟨rfl, hw2⟩))
  all_goals go_wp2
  all_goals go_returns
  all_goals refine ⟨rfl, Below.trans ?_ (Below.mono hw2 ?_)⟩
  all_goals first | go_grown | (simp; try omega)
set_option maxRecDepth 100000 in
set_option maxHeartbeats 2000000 in
theorem uint_bad (b : Int) (b0 : 0 ≤ b) (b1 : b ≤ 281474976710656) (s : ByteArray) (hs : s.size ≤ lim) (a d : Int) (big : Bool) (hw : widB d = true) (hE : (subE s.size a d != 0) = true) (w : World) :
    Calls Tryz.prog 51 #[.agg #[.int .i64 b, .string s], .int .i64 a, .int .i64 d, .bool big] w fun e w' => e = .returned (.tuple #[.int .u64 0, .int .i64 (subE s.size a d)]) ∧ Bw w w' := by
  have hmf : ∀ (fn : Fn) (first cap : Array Value) (w : World), (Instr.makeFunc fn first cap).run Tryz.prog w = .ok (.func fn first cap) w := fun _ _ _ _ => rfl
  cases big
  all_goals
    go_enter Tryz.func51, Tryz.ntmps51
    go_wp2_with (go_at_call 77; refine (isWidth_any _ _).mono ?_; rintro e w' ⟨rfl, rfl⟩)
    go_region_with (first | (go_at_call 78; (first | (with_reducible refine (order_big _ _).mono ?_) | (with_reducible refine (order_little _ _).mono ?_)); rintro e w1 ⟨rfl, rfl⟩) | (go_at_call 80; refine (numberW_bad b b0 b1 s hs a d hE _ _).mono ?_; rintro e w2 ⟨rfl, hw2⟩))
    all_goals go_wp2
    all_goals go_returns
    all_goals refine ⟨rfl, Below.trans ?_ (Below.mono hw2 ?_)⟩
    all_goals first | go_grown | (simp; try omega)
theorem uint_any (b : Int) (b0 : 0 ≤ b) (b1 : b ≤ 281474976710656) (s : ByteArray) (hs : s.size ≤ lim) (a d : Int) (big : Bool) (w : World) :
    Calls Tryz.prog 51 #[.agg #[.int .i64 b, .string s], .int .i64 a, .int .i64 d, .bool big] w fun e w' => e = .returned (.tuple #[.int .u64 (uintV s a d big), .int .i64 (uintE s.size a d)]) ∧ Bw w w' := by
  by_cases hw : widB d = true
  · obtain ⟨k, rfl, hk⟩ := wid_cases hw
    have HU := uintE_sub (z := s.size) (a := a) hw
    by_cases hE : subE s.size a k = 0
    · have hE' := HU.trans hE
      have h0 : ¬ (a < 0 ∨ (k : Int) < 0) := fun h => by rw [subE_arg h] at hE; cases hE
      have h1 : ¬ ((s.size : Int) < a ∨ (s.size : Int) - a < k) := fun h => by rw [subE_cut h0 h] at hE; cases hE
      obtain ⟨p, rfl⟩ := Int.eq_ofNat_of_zero_le (show 0 ≤ a by omega)
      have hV := uintV_ok (big := big) hE'
      rw [hE', hV]
      simp only [Int.toNat_natCast]
      cases big
      · exact uint_little b b0 b1 s hs p k (by omega) (by omega) hw (by omega) w
      · exact uint_big b b0 b1 s hs p k (by omega) (by omega) hw (by omega) w
    · have hV := uintV_bad (big := big) (show uintE s.size a k ≠ 0 by rw [HU]; exact hE)
      rw [hV, HU]
      exact uint_bad b b0 b1 s hs a k big hw (by simpa using hE) w
  · have hw1 : widB d = false := by simpa using hw
    have HE := hid (uintE_bad (z := s.size) (a := a) hw1)
    have HV := hid (uintV_bad (s := s) (big := big) (show uintE s.size a d ≠ 0 by rw [HE.out]; decide))
    clear hw
    go_enter Tryz.func51, Tryz.ntmps51
    go_wp2_with (go_at_call 77; refine (isWidth_any _ _).mono ?_; rintro e w' ⟨rfl, rfl⟩)
    go_returns
    exact ⟨ret_u HV.out.symm HE.out.symm, by unfold Bw; go_grown⟩

end Go.Proofs.YtkmbgkcpohchhaaGreatDoor
namespace Go.Proofs.YtkmbgkcpohchhaaGreatDoor
open Go.RowKit
set_option linter.unusedVariables false
def headB (n : Nat) : Bool := decide (n / 256 % 16 = 8 ∧ n / 4096 ≤ 7 ∧ n % 31 = 0 ∧ n / 32 % 2 = 0)
def sumS (n : Nat) : ByteArray := ⟨#[UInt8.ofNat (n / 16777216), UInt8.ofNat (n / 65536), UInt8.ofNat (n / 256), UInt8.ofNat n]⟩
theorem num2 (s : ByteArray) (p : Nat) : numAt s p 2 true = bt s p * 256 + bt s (p + 1) := by simp [numAt, horn, dig]
theorem num4 (s : ByteArray) (p : Nat) : numAt s p 4 true = ((bt s p * 256 + bt s (p + 1)) * 256 + bt s (p + 2)) * 256 + bt s (p + 3) := by simp [numAt, horn, dig]
theorem num2_lt (s : ByteArray) (p : Nat) : numAt s p 2 true < 65536 := by
  rw [num2]; have := bt_lt s p; have := bt_lt s (p + 1); omega
theorem num4_lt (s : ByteArray) (p : Nat) : numAt s p 4 true < 4294967296 := by
  rw [num4]; have := bt_lt s p; have := bt_lt s (p + 1); have := bt_lt s (p + 2); have := bt_lt s (p + 3); omega
theorem bt_ext {a b : ByteArray} (hz : a.size = b.size) (h : ∀ i, i < a.size → bt a i = bt b i) : a = b := by
  apply ByteArray.ext
  apply Array.ext
  · exact hz
  · intro i h1 h2
    have h3 := h i h1
    rw [bt_eq a i h1, bt_eq b i h2] at h3
    exact UInt8.toNat_inj.1 h3
theorem bt_sum (n : Nat) : bt (sumS n) 0 = n / 16777216 % 256 ∧ bt (sumS n) 1 = n / 65536 % 256 ∧ bt (sumS n) 2 = n / 256 % 256 ∧ bt (sumS n) 3 = n % 256 := by
  refine ⟨?_, ?_, ?_, ?_⟩ <;> (rw [bt_eq _ _ (by show _ < 4; omega)]; simp [sumS, ByteArray.getElem_eq_getElem_data])
theorem sum_eq (s : ByteArray) (p n : Nat) (h : p + 4 ≤ s.size) (hn : n < 4294967296) : s.extract p (p + 4) = sumS n ↔ numAt s p 4 true = n := by
  have hb := fun i (hi : i < 4) => bt_extract s p 4 i h hi
  obtain ⟨q0, q1, q2, q3⟩ := bt_sum n
  have l0 := bt_lt s p; have l1 := bt_lt s (p + 1); have l2 := bt_lt s (p + 2); have l3 := bt_lt s (p + 3)
  rw [num4]
  constructor
  · intro e
    rw [e] at hb
    have b0 := hb 0 (by omega); have b1 := hb 1 (by omega); have b2 := hb 2 (by omega); have b3 := hb 3 (by omega)
    rw [Nat.add_zero] at b0
    omega
  · intro e
    have hz : (s.extract p (p + 4)).size = 4 := by simp; omega
    refine bt_ext (by rw [hz]; rfl) fun i hi => ?_
    rw [hz] at hi
    rw [hb i hi]
    rcases (show i = 0 ∨ i = 1 ∨ i = 2 ∨ i = 3 by omega) with rfl | rfl | rfl | rfl
    · rw [q0, Nat.add_zero]; omega
    · rw [q1]; omega
    · rw [q2]; omega
    · rw [q3]; omega
theorem and15 (n : Nat) (h : n < 256) : bits .and .u64 ((n : Nat) : Int) 15 = ((n % 16 : Nat) : Int) := by
  have h1 := u64_and_nat n 15 (by omega) (by omega)
  rw [show (15 : Nat) = 2 ^ 4 - 1 from rfl, Nat.and_two_pow_sub_one_eq_mod] at h1
  exact h1
theorem nat_and32 (n : Nat) : n &&& 32 = n / 32 % 2 * 32 := by
  apply Nat.eq_of_testBit_eq
  intro i
  rw [show (32 : Nat) = 2 ^ 5 from rfl, Nat.and_comm, Nat.testBit_and, Nat.testBit_mul_two_pow, Nat.testBit_two_pow]
  by_cases hi : 5 = i
  · subst hi
    simp [Nat.testBit, Nat.shiftRight_eq_div_pow]
  · rcases Nat.lt_or_ge i 5 with h5 | h5
    · simp [hi]; omega
    · have : (n / 2 ^ 5 % 2).testBit (i - 5) = false := by
        apply Nat.testBit_lt_two_pow
        have h9 : 2 ^ 1 ≤ 2 ^ (i - 5) := Nat.pow_le_pow_right (by omega) (by omega)
        omega
      simp [hi, this]
theorem and32 (n : Nat) (h : n < 65536) : bits .and .u64 ((n : Nat) : Int) 32 = ((n / 32 % 2 * 32 : Nat) : Int) := by
  have h1 := u64_and_nat n 32 (by omega) (by omega)
  rw [nat_and32] at h1
  exact h1
set_option maxRecDepth 100000 in
set_option maxHeartbeats 1000000 in
theorem isHeader_any (n : Nat) (h : n < 65536) (w : World) :
    Calls Tryz.prog 52 #[.int .u64 (n : Nat)] w fun e w' => e = .returned (.bool (headB n)) ∧ w = w' := by
  obtain ⟨x, hx⟩ : ∃ x, ((n : Nat) : Int) = x := ⟨_, rfl⟩
  have A1 := and15 (n / 256) (by omega)
  have A2 := hid (and32 n h)
  rw [show ((n / 256 : Nat) : Int) = x / 256 by omega] at A1
  rw [hx] at A2
  have A3 := hid A1
  have h0 : 0 ≤ x := by omega
  have h1 : x < 65536 := by omega
  obtain ⟨hb, hhb⟩ : ∃ hb, headB n = hb := ⟨_, rfl⟩
  rw [hhb, hx]
  have HB := hid hhb
  have HX := hid hx
  clear hhb hx A1 h
  go_enter Tryz.func52, Tryz.ntmps52
  go_wp2
  all_goals
    go_ret
    refine ⟨ret_bool ?_, rfl⟩
    have a2 := A2.out
    have a3 := A3.out
    have ax := HX.out
    rw [← HB.out, Bool.eq_iff_iff]
    simp only [headB, decide_eq_true_eq, beq_iff_eq, Bool.false_eq_true, false_iff, a2, a3] at *
    try omega
theorem u8mod (x : Nat) : IntKind.u8.wrap (x : Int) = ((x % 256 : Nat) : Int) := by rw [IntKind.wrap_u8]; omega
theorem u8_ofmod (n : Nat) : UInt8.ofNat (n % 256) = UInt8.ofNat n := by
  apply UInt8.toNat_inj.1
  simp
theorem sum_conv (n : Nat) (h : n < 4294967296) (x : Int) (hx : (n : Int) = x) (w : World) :
    (convert 41 9 (.slice (some ⟨w.heap.size, 0, none⟩) 4 4)).run Tryz.prog (w.alloc (.cells #[.int .u8 (x / 16777216), .int .u8 (x / 65536 % 256), .int .u8 (x / 256 % 256), .int .u8 (x % 256)] 5)) =
      .ok (.string (sumS n)) (w.alloc (.cells #[.int .u8 (x / 16777216), .int .u8 (x / 65536 % 256), .int .u8 (x / 256 % 256), .int .u8 (x % 256)] 5)) := by
  have e : fill 4 (fun j => if j = 0 then x / 16777216 else if j = 1 then x / 65536 % 256 else if j = 2 then x / 256 % 256 else x % 256) = #[.int .u8 (x / 16777216), .int .u8 (x / 65536 % 256), .int .u8 (x / 256 % 256), .int .u8 (x % 256)] := by
    simp [fill, List.range_succ]
  have hN := Has.new w 5 #[.int .u8 (x / 16777216), .int .u8 (x / 65536 % 256), .int .u8 (x / 256 % 256), .int .u8 (x % 256)]
  rw [← e] at hN ⊢
  have hcv := conv_fill (P := Tryz.prog) _ 41 9 5 Tryz.underlying41 Tryz.underlying5 Tryz.underlying9 (c := 4) hN (fun j _ => by constructor <;> (repeat' split) <;> omega)
  rw [hcv]
  have e2 : strOf 4 (fun j => if j = 0 then x / 16777216 else if j = 1 then x / 65536 % 256 else if j = 2 then x / 256 % 256 else x % 256) = [UInt8.ofNat (n / 16777216), UInt8.ofNat (n / 65536), UInt8.ofNat (n / 256), UInt8.ofNat n] := by
    have q0 : (x / 16777216).toNat = n / 16777216 := by omega
    have q1 : (x / 65536 % 256).toNat = n / 65536 % 256 := by omega
    have q2 : (x / 256 % 256).toNat = n / 256 % 256 := by omega
    have q3 : (x % 256).toNat = n % 256 := by omega
    simp [strOf, List.range_succ, q0, q1, q2, q3, u8_ofmod]
  rw [e2]
  rfl
set_option maxRecDepth 100000 in
set_option maxHeartbeats 1000000 in
theorem refsum_any (n : Nat) (h : n < 4294967296) (w : World) :
    Calls Tryz.prog 21 #[.int .u32 (n : Nat)] w fun e w' => e = .returned (.string (sumS n)) ∧ Bw w w' := by
  obtain ⟨x, hx⟩ : ∃ x, ((n : Nat) : Int) = x := ⟨_, rfl⟩
  have h0 : 0 ≤ x := by omega
  have h1 : x < 4294967296 := by omega
  have hcv := sum_conv n h x hx w
  generalize sumS n = hs at hcv ⊢
  rw [hx]
  clear hx h
  go_enter Tryz.func21, Tryz.ntmps21
  go_wp2
  go_returns
  exact ⟨rfl, by unfold Bw; go_grown⟩
end Go.Proofs.YtkmbgkcpohchhaaGreatDoor
namespace Go.Proofs.YtkmbgkcpohchhaaGreatDoor
open Go.RowKit
set_option linter.unusedVariables false
def early (s : ByteArray) (L : Int) : Option Int :=
  if L < 0 ∨ 1073741824 < L then some 1 else if s.size < 2 then some 2 else if headB (numAt s 0 2 true) = true then none else some 3
def late (s b : ByteArray) (m e : Int) : ByteArray × Int × Int :=
  if e ≠ 0 then (⟨#[]⟩, 0, e) else if (s.size : Int) - 2 - m < 4 then (⟨#[]⟩, 0, 2) else if numAt s (2 + m).toNat 4 true = adlN 1 b then (b, 6 + m, 0) else (⟨#[]⟩, 0, 4)
def UnzR (s : ByteArray) (L : Int) (a : ByteArray) (n er : Int) : Prop :=
  (early s L = some er ∧ a = ⟨#[]⟩ ∧ n = 0) ∨ (early s L = none ∧ ∃ b m e, InfR (s.extract 2 s.size) L b m e ∧ late s b m e = (a, n, er))
def UnzPost (s : ByteArray) (L : Int) (w : World) (e : Ending) (w' : World) : Prop :=
  ∃ a n er, e = .returned (.tuple #[.string a, .int .i64 n, .int .i64 er]) ∧ UnzR s L a n er ∧ Bw w w'
theorem UnzR.unique {s : ByteArray} {L : Int} {a b : ByteArray} {n m er fr : Int} (h : UnzR s L a n er) (k : UnzR s L b m fr) : a = b ∧ n = m ∧ er = fr := by
  rcases h with ⟨h0, rfl, rfl⟩ | ⟨h0, b1, m1, e1, h1, h2⟩ <;> rcases k with ⟨k0, rfl, rfl⟩ | ⟨k0, b2, m2, e2, k1, k2⟩
  · rw [h0] at k0; injection k0 with k0; exact ⟨rfl, rfl, k0⟩
  · rw [h0] at k0; cases k0
  · rw [h0] at k0; cases k0
  · obtain ⟨rfl, rfl, rfl⟩ := h1.unique k1
    rw [h2] at k2
    injection k2 with k2 k3
    injection k3 with k3 k4
    exact ⟨k2, k3, k4⟩
theorem early_lim {s : ByteArray} {L : Int} (h : L < 0 ∨ 1073741824 < L) : early s L = some 1 := if_pos h
theorem early_cut {s : ByteArray} {L : Int} (h : ¬ (L < 0 ∨ 1073741824 < L)) (h2 : s.size < 2) : early s L = some 2 := by rw [early, if_neg h, if_pos h2]
theorem early_form {s : ByteArray} {L : Int} (h : ¬ (L < 0 ∨ 1073741824 < L)) (h2 : ¬ s.size < 2) (h3 : headB (numAt s 0 2 true) = false) : early s L = some 3 := by rw [early, if_neg h, if_neg h2, if_neg (by rw [h3]; decide)]
theorem early_none {s : ByteArray} {L : Int} (h : ¬ (L < 0 ∨ 1073741824 < L)) (h2 : ¬ s.size < 2) (h3 : headB (numAt s 0 2 true) = true) : early s L = none := by rw [early, if_neg h, if_neg h2, if_pos h3]
theorem late_bad {s b : ByteArray} {m e : Int} (h : e ≠ 0) : late s b m e = (⟨#[]⟩, 0, e) := if_pos h
theorem late_cut {s b : ByteArray} {m : Int} (h : (s.size : Int) - 2 - m < 4) : late s b m 0 = (⟨#[]⟩, 0, 2) := by rw [late, if_neg (by decide), if_pos h]
theorem late_ok {s b : ByteArray} {m : Int} (h : ¬ (s.size : Int) - 2 - m < 4) (k : numAt s (2 + m).toNat 4 true = adlN 1 b) : late s b m 0 = (b, 6 + m, 0) := by rw [late, if_neg (by decide), if_neg h, if_pos k]
theorem late_sum {s b : ByteArray} {m : Int} (h : ¬ (s.size : Int) - 2 - m < 4) (k : ¬ numAt s (2 + m).toNat 4 true = adlN 1 b) : late s b m 0 = (⟨#[]⟩, 0, 4) := by rw [late, if_neg (by decide), if_neg h, if_neg k]
theorem infR_size {s : ByteArray} {L : Int} {a : ByteArray} {n : Int} (h : InfR s L a n 0) : a.size ≤ 1073741824 := by
  rcases h with ⟨h0, rfl, rfl, h⟩ | ⟨L1, e1, hL, ⟨k1, o1, ⟨i, hi⟩, rfl, rfl, _⟩ | ⟨_, rfl, rfl, hne⟩⟩
  · cases h
  · rcases itr_lim (s := s) (Nat.le_refl L1) i start k1 o1 (Nat.zero_le _) hi with ⟨h1, _⟩ | ⟨_, h2⟩
    · exact Nat.le_trans h1 hL
    · rw [hi] at h2; cases h2
  · exact absurd rfl hne
theorem cut2_size (s : ByteArray) : (s.extract 2 s.size).size = s.size - 2 := by simp
theorem head_num (s : ByteArray) (a b : Nat) (ha : bt s 0 = a) (hb : bt s 1 = b) : a < 256 ∧ b < 256 ∧ (headB (numAt s 0 2 true) = true ↔ (a % 16 = 8 ∧ a / 16 ≤ 7 ∧ (256 * a + b) % 31 = 0 ∧ b / 32 % 2 = 0)) := by
  have h1 := bt_lt s 0
  have h2 := bt_lt s 1
  have e := num2 s 0
  rw [Nat.zero_add, ha, hb] at e
  refine ⟨by omega, by omega, ?_⟩
  have e1 : (a * 256 + b) / 256 = a := by omega
  have e2 : (a * 256 + b) / 4096 = a / 16 := by omega
  have e3 : (a * 256 + b) / 32 % 2 = b / 32 % 2 := by omega
  rw [headB, decide_eq_true_eq, e, e1, e2, e3, Nat.mul_comm a 256]
end Go.Proofs.YtkmbgkcpohchhaaGreatDoor
namespace Go.Proofs.YtkmbgkcpohchhaaGreatDoor
open Go.RowKit Go.Conc
set_option linter.unusedVariables false
theorem uint2_cut (s : ByteArray) (hs : s.size < 2) (w : World) :
    Calls Tryz.prog 51 #[.agg #[.int .i64 0, .string s], .int .i64 0, .int .i64 2, .bool true] w fun e w' => e = .returned (.tuple #[.int .u64 0, .int .i64 2]) ∧ Bw w w' := by
  have h := uint_any 0 (by omega) (by omega) s (by unfold lim; omega) 0 2 true w
  have e : uintE s.size 0 2 = 2 := by rw [uintE_sub (by decide), subE_cut (by omega) (by omega)]
  rw [uintV_bad (by rw [e]; decide), e] at h
  exact h
theorem uint2_ok (s : ByteArray) (hs : s.size ≤ lim) (h2 : 2 ≤ s.size) (w : World) :
    Calls Tryz.prog 51 #[.agg #[.int .i64 0, .string s], .int .i64 0, .int .i64 2, .bool true] w fun e w' => e = .returned (.tuple #[.int .u64 (numAt s 0 2 true : Nat), .int .i64 0]) ∧ Bw w w' := by
  have h := uint_any 0 (by omega) (by omega) s hs 0 2 true w
  have e : uintE s.size 0 2 = 0 := by rw [uintE_sub (by decide), subE_ok (by omega) (by omega)]
  rw [uintV_ok e, e] at h
  exact h
theorem uint4_cut (s : ByteArray) (hs : s.size ≤ lim) (p : Int) (h0 : 0 ≤ p) (hp : (s.size : Int) - p < 4) (w : World) :
    Calls Tryz.prog 51 #[.agg #[.int .i64 0, .string s], .int .i64 p, .int .i64 4, .bool true] w fun e w' => e = .returned (.tuple #[.int .u64 0, .int .i64 2]) ∧ Bw w w' := by
  have h := uint_any 0 (by omega) (by omega) s hs p 4 true w
  have e : uintE s.size p 4 = 2 := by rw [uintE_sub (by decide), subE_cut (by omega) (by omega)]
  rw [uintV_bad (by rw [e]; decide), e] at h
  exact h
theorem uint4_ok (s : ByteArray) (hs : s.size ≤ lim) (p : Int) (h0 : 0 ≤ p) (hp : ¬ (s.size : Int) - p < 4) (w : World) :
    Calls Tryz.prog 51 #[.agg #[.int .i64 0, .string s], .int .i64 p, .int .i64 4, .bool true] w fun e w' => e = .returned (.tuple #[.int .u64 (numAt s p.toNat 4 true : Nat), .int .i64 0]) ∧ Bw w w' := by
  have h := uint_any 0 (by omega) (by omega) s hs p 4 true w
  have e : uintE s.size p 4 = 0 := by rw [uintE_sub (by decide), subE_ok (by omega) (by omega)]
  rw [uintV_ok e, e] at h
  exact h
set_option maxRecDepth 100000 in
set_option maxHeartbeats 4000000 in
theorem unzip_out (s : ByteArray) (L : Int) (h : L < 0 ∨ 1073741824 < L) (w : World) :
    Calls Tryz.prog 23 #[.string s, .int .i64 L] w (UnzPost s L w) := by
  have HP := hid (show UnzPost s L w (.returned (.tuple #[.string ⟨#[]⟩, .int .i64 0, .int .i64 1])) w from ⟨_, _, _, rfl, .inl ⟨early_lim h, rfl, rfl⟩, Bw.refl w⟩)
  by_cases h0 : L < 0
  · clear h
    go_enter Tryz.func23, Tryz.ntmps23
    go_wp2
    go_returns
    exact HP.out
  · have h1 : 1073741824 < L := by omega
    have h2 : 0 ≤ L := by omega
    clear h
    go_enter Tryz.func23, Tryz.ntmps23
    go_wp2
    go_returns
    exact HP.out
set_option maxRecDepth 100000 in
set_option maxHeartbeats 4000000 in
theorem unzip_cut (s : ByteArray) (hs : s.size < 2) (L : Int) (h0 : 0 ≤ L) (h1 : L ≤ 1073741824) (w : World) :
    Calls Tryz.prog 23 #[.string s, .int .i64 L] w (UnzPost s L w) := by
  have HE := hid (early_cut (s := s) (L := L) (by omega) hs)
  have HS := hid hs
  have t0 : decide (L < 0) = false := decide_eq_false (by omega)
  clear hs
  go_enter Tryz.func23, Tryz.ntmps23
  go_wp2_with fail
  refine (of_any s w).mono ?_
  rintro e w1 ⟨rfl, hb1⟩
  have HB1 := hid hb1
  clear hb1
  go_wp2_with fail
  refine (uint2_cut s HS.out _).mono ?_
  rintro e w3 ⟨rfl, hb3⟩
  have HB3 := hid (show Bw w w3 from Below.trans (HB1.out.alloc (.cells #[.int .i64 0, .string s] 103)) (Below.mono hb3 (by have := HB1.out.size; simp; omega)))
  clear hb3
  go_wp2
  go_returns
  exact ⟨_, _, _, rfl, .inl ⟨HE.out, rfl, rfl⟩, HB3.out⟩
set_option maxRecDepth 100000 in
set_option maxHeartbeats 4000000 in
theorem unzip_form (s : ByteArray) (hs : s.size ≤ lim) (h2 : 2 ≤ s.size) (hh : headB (numAt s 0 2 true) = false) (L : Int) (h0 : 0 ≤ L) (h1 : L ≤ 1073741824) (w : World) :
    Calls Tryz.prog 23 #[.string s, .int .i64 L] w (UnzPost s L w) := by
  have HE := hid (early_form (s := s) (L := L) (by omega) (by omega) hh)
  have HS := hid hs
  have H2 := hid h2
  have HH := hid hh
  have HN := hid (num2_lt s 0)
  obtain ⟨x, hx⟩ : ∃ x, numAt s 0 2 true = x := ⟨_, rfl⟩
  have HX := hid hx
  clear hs h2 hh hx
  go_enter Tryz.func23, Tryz.ntmps23
  go_wp2_with fail
  refine (of_any s w).mono ?_
  rintro e w1 ⟨rfl, hb1⟩
  have HB1 := hid hb1
  clear hb1
  go_wp2_with fail
  refine (uint2_ok s HS.out H2.out _).mono ?_
  rintro e w3 ⟨rfl, hb3⟩
  have HB3 := hid (show Bw w w3 from Below.trans (HB1.out.alloc (.cells #[.int .i64 0, .string s] 103)) (Below.mono hb3 (by have := HB1.out.size; simp; omega)))
  clear hb3
  rw [HX.out]
  go_wp2_with fail
  refine (isHeader_any x (by rw [← HX.out]; exact HN.out) _).mono ?_
  rintro e w4 ⟨rfl, rfl⟩
  rw [← HX.out, HH.out]
  go_wp2
  go_returns
  exact ⟨_, _, _, rfl, .inl ⟨HE.out, rfl, rfl⟩, HB3.out⟩
set_option maxRecDepth 100000 in
set_option maxHeartbeats 8000000 in
theorem unzip_in (s : ByteArray) (hs : s.size ≤ 140737488351232) (h2 : 2 ≤ s.size) (hh : headB (numAt s 0 2 true) = true) (L : Int) (h0 : 0 ≤ L) (h1 : L ≤ 1073741824) (w : World) (ht : Tabs w.heap.size w) :
    Calls Tryz.prog 23 #[.string s, .int .i64 L] w (UnzPost s L w) := by
  have HE := hid (early_none (s := s) (L := L) (by omega) (by omega) hh)
  have HS := hid (show s.size ≤ lim by unfold lim; omega)
  have HC := hid (cut2_size s)
  have H2 := hid h2
  have HH := hid hh
  have HT := hid ht
  have HN := hid (num2_lt s 0)
  obtain ⟨x, hx⟩ : ∃ x, numAt s 0 2 true = x := ⟨_, rfl⟩
  have HX := hid hx
  clear hh hx ht
  go_enter Tryz.func23, Tryz.ntmps23
  go_wp2_with fail
  refine (of_any s w).mono ?_
  rintro e w1 ⟨rfl, hb1⟩
  have HB1 := hid hb1
  clear hb1
  go_wp2_with fail
  refine (uint2_ok s HS.out H2.out _).mono ?_
  rintro e w3 ⟨rfl, hb3⟩
  have HW := hid ((Has.new w1 103 #[.int .i64 0, .string s]).below hb3 (by simp))
  have HB3 := hid (show Bw w w3 from Below.trans (HB1.out.alloc (.cells #[.int .i64 0, .string s] 103)) (Below.mono hb3 (by have := HB1.out.size; simp; omega)))
  clear hb3
  rw [HX.out]
  go_wp2_with fail
  refine (isHeader_any x (by rw [← HX.out]; exact HN.out) _).mono ?_
  rintro e w4 ⟨rfl, rfl⟩
  rw [← HX.out, HH.out]
  go_wp2_with fail
  refine (inflate_any (s.extract 2 s.size) (by rw [HC.out]; omega) L w3 (HT.out.bw HB3.out)).mono ?_
  rintro e w5 ⟨b, m, e1, rfl, hr, hb5⟩
  have HR := hid hr
  have HB5 := hid (HB3.out.trans hb5)
  have HW5 := hid (hb5.has HW.out)
  clear hb5
  by_cases he : e1 = 0
  · subst he
    have hm := infR_le hr
    rw [HC.out] at hm
    have hbs := infR_size hr
    clear hr
    obtain ⟨hm0, hm1⟩ := hm
    have hm2 : m ≤ 140737488351232 := by omega
    have HM := hid hm1
    have HBS := hid hbs
    clear hm1 hbs
    have c0 := HW5.out.cell 0
    have c1 := HW5.out.cell 1
    by_cases hc : (s.size : Int) - (2 + m) < 4
    · have HQ := hid hc
      clear hc
      go_wp2_with fail
      refine (uint4_cut s HS.out (2 + m) (by omega) HQ.out _).mono ?_
      rintro e w6 ⟨rfl, hb6⟩
      have HB6 := hid (HB5.out.trans hb6)
      clear hb6
      go_wp2
      go_returns
      exact ⟨_, _, _, rfl, .inr ⟨HE.out, _, _, _, HR.out, late_cut (by have := HQ.out; omega)⟩, HB6.out⟩
    · have HQ := hid hc
      clear hc
      go_wp2_with fail
      refine (uint4_ok s HS.out (2 + m) (by omega) (by have := HQ.out; omega) _).mono ?_
      rintro e w6 ⟨rfl, hb6⟩
      have HB6 := hid (HB5.out.trans hb6)
      clear hb6
      have hy := num4_lt s (2 + m).toNat
      have HY := hid hy
      obtain ⟨y, hyy⟩ : ∃ y, numAt s (2 + m).toNat 4 true = y := ⟨_, rfl⟩
      have HYY := hid hyy
      rw [hyy] at hy ⊢
      clear hyy
      go_wp2_with fail
      refine (adler_any b (by have := HBS.out; unfold lim; omega) _).mono ?_
      rintro e w7 ⟨rfl, rfl⟩
      have hz := adlN_lt 1 b
      obtain ⟨z, hzz⟩ : ∃ z, adlN 1 b = z := ⟨_, rfl⟩
      have HZZ := hid hzz
      rw [hzz] at hz ⊢
      clear hzz
      by_cases hq : y = z
      · subst hq
        go_wp2
        go_returns
        exact ⟨_, _, _, rfl, .inr ⟨HE.out, _, _, _, HR.out, by rw [late_ok (by have := HQ.out; omega) (by rw [HYY.out, HZZ.out])]; simp; omega⟩, HB6.out⟩
      · have t1 : (((y : Nat) : Int) != ((z : Nat) : Int)) = true := by simp; omega
        have HQQ := hid hq
        clear hq
        go_wp2
        go_returns
        exact ⟨_, _, _, rfl, .inr ⟨HE.out, _, _, _, HR.out, late_sum (by have := HQ.out; omega) (by rw [HYY.out, HZZ.out]; exact HQQ.out)⟩, HB6.out⟩
  · have t0 : (e1 != 0) = true := by simpa using he
    have HNE := hid he
    clear hr he
    go_wp2
    go_returns
    exact ⟨_, _, _, rfl, .inr ⟨HE.out, _, _, _, HR.out, late_bad HNE.out⟩, HB5.out⟩
theorem unzip_any (s : ByteArray) (hs : s.size ≤ 140737488351232) (L : Int) (w : World) (ht : Tabs w.heap.size w) :
    Calls Tryz.prog 23 #[.string s, .int .i64 L] w (UnzPost s L w) := by
  by_cases h : L < 0 ∨ 1073741824 < L
  · exact unzip_out s L h w
  · by_cases h2 : s.size < 2
    · exact unzip_cut s h2 L (by omega) (by omega) w
    · cases hh : headB (numAt s 0 2 true) with
      | false => exact unzip_form s (by unfold lim; omega) (by omega) hh L (by omega) (by omega) w
      | true => exact unzip_in s hs (by omega) hh L (by omega) (by omega) w ht
end Go.Proofs.YtkmbgkcpohchhaaGreatDoor
