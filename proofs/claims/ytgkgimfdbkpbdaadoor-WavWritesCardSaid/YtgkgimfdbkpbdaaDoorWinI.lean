/- What win's number and Uint return. -/
import Derived.Test.YtgkgimfdbkpbdaaDoorWinH
import Derived.Deep.QuietTactic
import Derived.BigQuiet
namespace Go.Proofs.YtgkgimfdbkpbdaaDoor
open Go.RowKit
set_option linter.unusedVariables false

theorem sub_fits (b : Int) (b0 : 0 ≤ b) (b1 : b ≤ 281474976710656) (s : ByteArray) (hs : s.size ≤ lim) (p k : Nat) (hp : p + k ≤ s.size) (T : ByteArray) (hT : Hid (s.extract p (p + k) = T)) (w : World) :
    Calls Tryd.prog 40 #[.agg #[.int .i64 b, .string s], .int .i64 p, .int .i64 k] w fun e w' => e = .returned (.tuple #[.agg #[.int .i64 (b + p), .string T], .int .i64 0]) ∧ Bw w w' := by
  have hE : subE s.size (p : Int) (k : Int) = 0 := subE_ok (by omega) (by omega)
  have h := sub_any b b0 b1 s hs p k w
  rw [subB_ok hE, subS_ok hE, hE] at h
  simp only [Int.toNat_natCast] at h
  rw [hT.out] at h
  exact h
theorem bt_extract (s : ByteArray) (p k i : Nat) (hp : p + k ≤ s.size) (hi : i < k) : bt (s.extract p (p + k)) i = bt s (p + i) := by
  have hz : (s.extract p (p + k)).size = k := by simp; omega
  rw [bt_eq _ i (by omega), bt_eq s (p + i) (by omega), ByteArray.getElem_extract]
theorem wrap_shl {b : Nat} (hb : b < 256) (e : Nat) (he : e ≤ 56) : IntKind.u64.wrap ((b : Int) * 2 ^ e) = ((b * 2 ^ e : Nat) : Int) := by
  have h2 : 2 ^ e ≤ 2 ^ 56 := Nat.pow_le_pow_right (by omega) he
  have h3 : b * 2 ^ e ≤ 255 * 2 ^ 56 := Nat.mul_le_mul (by omega) h2
  have e1 : ((b * 2 ^ e : Nat) : Int) = (b : Int) * 2 ^ e := by simp
  rw [← e1, IntKind.wrap_u64]
  omega

/-- What stands in the number after k bytes. -/
def accB (T : ByteArray) (d : Nat) (big : Bool) (k : Nat) : Nat := if big then horn (bt T) k * 256 ^ (d - k) else lit (bt T) k
theorem accB_zero (T : ByteArray) (d : Nat) (big : Bool) : accB T d big 0 = 0 := by cases big <;> simp [accB, horn, lit]
theorem accB_lt (T : ByteArray) (d : Nat) (big : Bool) (k : Nat) (hk : k ≤ d) (hd : d ≤ 8) : accB T d big k < 18446744073709551616 := by
  have h8 : 256 ^ d ≤ 256 ^ 8 := Nat.pow_le_pow_right (by omega) hd
  cases big
  · have h := lit_lt (bt T) (bt_lt T) k
    have h2 : 256 ^ k ≤ 256 ^ d := Nat.pow_le_pow_right (by omega) hk
    simp only [accB, Bool.false_eq_true, if_false]
    omega
  · have h := horn_lt (bt T) (bt_lt T) k
    have h2 : horn (bt T) k * 256 ^ (d - k) < 256 ^ k * 256 ^ (d - k) := Nat.mul_lt_mul_of_pos_right h (Nat.pow_pos (by omega))
    rw [← Nat.pow_add, show k + (d - k) = d by omega] at h2
    simp only [accB, if_true]
    omega
theorem byte_wrap {b : Nat} (h : b < 256) : IntKind.u64.wrap (b : Int) = b := by rw [IntKind.wrap_u64]; omega
theorem or_step {T : ByteArray} {d k b : Nat} {big : Bool} (hk : k < d) (hd : d ≤ 8) (hb : bt T k = b) (e : Nat) (he : e = if big then 8 * (d - 1 - k) else 8 * k) :
    bits .or .u64 (accB T d big k : Int) (IntKind.u64.wrap (IntKind.u64.wrap (b : Int) * 2 ^ e)) = (accB T d big (k + 1) : Int) := by
  have hb1 : b < 256 := hb ▸ bt_lt T k
  have he1 : e ≤ 56 := by subst he; split <;> omega
  have hz : b * 2 ^ e ≤ 255 * 2 ^ 56 := Nat.mul_le_mul (by omega) (Nat.pow_le_pow_right (by omega) he1)
  rw [byte_wrap hb1, wrap_shl hb1 e he1, u64_or_nat _ _ (accB_lt T d big k (by omega) hd) (by omega)]
  subst he hb
  cases big
  · simp only [accB, Bool.false_eq_true, if_false]
    rw [or_little (bt T) (bt_lt T) k]
  · simp only [accB, if_true]
    rw [or_big (bt T) (bt_lt T) d k hk]
theorem accB_full (s : ByteArray) (p d : Nat) (big : Bool) (hp : p + d ≤ s.size) (T : ByteArray) (hT : s.extract p (p + d) = T) : accB T d big d = numAt s p d big := by
  subst hT
  cases big
  · simp only [accB, Bool.false_eq_true, if_false, numAt]
    rw [← horn_rev]
    refine horn_congr d fun i hi => ?_
    rw [bt_extract s p d _ hp (by omega), dig, if_neg (by decide), show p + (d - 1 - i) = p + d - 1 - i by omega]
  · simp only [accB, if_true, numAt, Nat.sub_self, Nat.pow_zero, Nat.mul_one]
    refine horn_congr d fun i hi => ?_
    rw [bt_extract s p d _ hp hi, dig, if_pos rfl]

set_option maxRecDepth 100000 in
set_option maxHeartbeats 1000000 in
theorem number_big (b : Int) (b0 : 0 ≤ b) (b1 : b ≤ 281474976710656) (s : ByteArray) (hs : s.size ≤ lim) (p d : Nat) (hd : 1 ≤ d) (hd8 : d ≤ 8) (hp : p + d ≤ s.size)
    (T : ByteArray) (hT : Hid (s.extract p (p + d) = T)) (hT1 : T.size ≤ d) (hT2 : d ≤ T.size) (c : Addr) (w : World) (hb : c.block < w.heap.size) (hc : w.cell? c = some (.int .i64 d)) :
    Calls Tryd.prog 62 #[.func (.func 40) #[.agg #[.int .i64 b, .string s]] #[], .int .i64 p, .int .i64 d, .func (.func 68) #[] #[.pointer (some c)]] w
      fun e w' => e = .returned (.tuple #[.int .u64 (numAt s p d true), .int .i64 0]) ∧ Bw w w' := by
  have Hs := hid hs
  have Hfull := hid (accB_full s p d true hp T hT.out)
  unfold lim at hs
  go_enter Tryd.func62, Tryd.ntmps62
  go_wp2_with (first | (go_at_call 40; refine (sub_fits b b0 b1 s Hs.out p d hp T hT _).mono ?_; rintro e w1 ⟨rfl, hw1⟩) | (go_at_call 44; refine (len_any _ _ (by unfold lim; omega) _).mono ?_; rintro e w2 ⟨rfl, hw2⟩))
  have hz1 : w.heap.size ≤ w1.heap.size := hw1.size
  have hbel2 : Below w.heap.size w w2 := (Below.alloc hw1 hz1 _).trans (Below.mono hw2 (by simp; omega))
  have hH2 : Has w2 w1.heap.size 45 #[.int .i64 (b + p), .string T] := (Has.new w1 _ _).below hw2 (by simp)
  clear hw1 hw2
  go_loopw [12, 26] (fun n i wr => ∃ k : Nat, k ≤ d ∧ n = .int .u64 (accB T d true k) ∧ i = .int .i64 k ∧ Has wr w1.heap.size 45 #[.int .i64 (b + p), .string T] ∧ Below w.heap.size w wr)
    (fun _ i _ => d - (intOf i).toNat)
  case atStart => exact ⟨0, Nat.zero_le _, by rw [accB_zero]; rfl, rfl, hH2, hbel2⟩
  case round =>
    obtain ⟨k, hk, rfl, rfl, hH, hbel⟩ := hrel
    have hcc := (hbel.cell hb).trans hc
    have hc1 := hH.cell 1
    have hcT : wr.cell? ⟨w1.heap.size, 1, none⟩ = some (.string T) := hc1
    clear hc1 hH2 hbel2
    by_cases hlt : k < d
    · have E1 := hid (or_step (T := T) (d := d) (k := k) (big := true) hlt hd8 (bt_eq T k (by omega)) (8 * (d - 1 - k)) (by simp))
      clear hc
      go_wp2_with fail
      go_quiet ((go_at_call 68; refine Calls.quiet_of_same ((big_any d k (by omega) (by omega) (by omega) (by omega) _ _ ?_).mono fun _ _ hh => ⟨hh.1, hh.2.symm⟩); exact hcc))
      go_wp2
      all_goals go_roundw
      case rel => exact ⟨k + 1, by omega, u64_same E1.out, by go_num, hH.drewN _, below_drewN hbel _⟩
      case measure => simp [intOf]; omega
    · obtain rfl : k = d := by omega
      clear hc
      clear hlt hk
      go_wp2
      go_returns
      exact ⟨ret_u (by rw [Hfull.out]) rfl, Bw.at_end hbel⟩

set_option maxRecDepth 100000 in
set_option maxHeartbeats 1000000 in
theorem number_little (b : Int) (b0 : 0 ≤ b) (b1 : b ≤ 281474976710656) (s : ByteArray) (hs : s.size ≤ lim) (p d : Nat) (hd : 1 ≤ d) (hd8 : d ≤ 8) (hp : p + d ≤ s.size)
    (T : ByteArray) (hT : Hid (s.extract p (p + d) = T)) (hT1 : T.size ≤ d) (hT2 : d ≤ T.size) (w : World) :
    Calls Tryd.prog 62 #[.func (.func 40) #[.agg #[.int .i64 b, .string s]] #[], .int .i64 p, .int .i64 d, .func (.func 69) #[] #[]] w
      fun e w' => e = .returned (.tuple #[.int .u64 (numAt s p d false), .int .i64 0]) ∧ Bw w w' := by
  have Hs := hid hs
  have Hfull := hid (accB_full s p d false hp T hT.out)
  unfold lim at hs
  go_enter Tryd.func62, Tryd.ntmps62
  go_wp2_with (first | (go_at_call 40; refine (sub_fits b b0 b1 s Hs.out p d hp T hT _).mono ?_; rintro e w1 ⟨rfl, hw1⟩) | (go_at_call 44; refine (len_any _ _ (by unfold lim; omega) _).mono ?_; rintro e w2 ⟨rfl, hw2⟩))
  have hz1 : w.heap.size ≤ w1.heap.size := hw1.size
  have hbel2 : Below w.heap.size w w2 := (Below.alloc hw1 hz1 _).trans (Below.mono hw2 (by simp; omega))
  have hH2 : Has w2 w1.heap.size 45 #[.int .i64 (b + p), .string T] := (Has.new w1 _ _).below hw2 (by simp)
  clear hw1 hw2
  go_loopw [12, 26] (fun n i wr => ∃ k : Nat, k ≤ d ∧ n = .int .u64 (accB T d false k) ∧ i = .int .i64 k ∧ Has wr w1.heap.size 45 #[.int .i64 (b + p), .string T] ∧ Below w.heap.size w wr)
    (fun _ i _ => d - (intOf i).toNat)
  case atStart => exact ⟨0, Nat.zero_le _, by rw [accB_zero]; rfl, rfl, hH2, hbel2⟩
  case round =>
    obtain ⟨k, hk, rfl, rfl, hH, hbel⟩ := hrel
    skip
    have hc1 := hH.cell 1
    have hcT : wr.cell? ⟨w1.heap.size, 1, none⟩ = some (.string T) := hc1
    clear hc1 hH2 hbel2
    by_cases hlt : k < d
    · have E1 := hid (or_step (T := T) (d := d) (k := k) (big := false) hlt hd8 (bt_eq T k (by omega)) (8 * k) (by simp))
      skip
      go_wp2_with fail
      go_quiet ((go_at_call 69; refine Calls.quiet_of_same ((little_any k (by omega) (by omega) _).mono fun _ _ hh => ⟨hh.1, hh.2.symm⟩)))
      go_wp2
      all_goals go_roundw
      case rel => exact ⟨k + 1, by omega, u64_same E1.out, by go_num, hH.drewN _, below_drewN hbel _⟩
      case measure => simp [intOf]; omega
    · obtain rfl : k = d := by omega
      skip
      clear hlt hk
      go_wp2
      go_returns
      exact ⟨ret_u (by rw [Hfull.out]) rfl, Bw.at_end hbel⟩

set_option maxHeartbeats 1000000 in
theorem number_bad (b : Int) (b0 : 0 ≤ b) (b1 : b ≤ 281474976710656) (s : ByteArray) (hs : s.size ≤ lim) (a d : Int) (hE : (subE s.size a d != 0) = true) (f : Value) (w : World) :
    Calls Tryd.prog 62 #[.func (.func 40) #[.agg #[.int .i64 b, .string s]] #[], .int .i64 a, .int .i64 d, f] w
      fun e w' => e = .returned (.tuple #[.int .u64 0, .int .i64 (subE s.size a d)]) ∧ Bw w w' := by
  go_enter Tryd.func62, Tryd.ntmps62
  go_wp2_with (go_at_call 40; refine (sub_any b b0 b1 s hs a d _).mono ?_; rintro e w1 ⟨rfl, hw1⟩)
  go_returns
  exact ⟨rfl, Below.alloc hw1 hw1.size _⟩

end Go.Proofs.YtgkgimfdbkpbdaaDoor
