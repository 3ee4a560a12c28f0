/- What sums's and the document's Adler, Words and Tar return, for every text and every uint32 (contracts of the functions; a text has at most 2^48 bytes). -/
import Derived.Test.YtkdnlnnmeeeolaaDoorSumA
import Derived.Test.YtkdnlnnmeeeolaaDoorSumN
namespace Go.Proofs.YtkdnlnnmeeeolaaDoor
open Go.RowKit

theorem wrd_cast (a b e : Nat) : ((a : Int) + (b : Int) * 2 ^ e % 4294967296) % 4294967296 = (((a + b * 2 ^ e) % 4294967296 : Nat) : Int) := by
  rw [Int.natCast_emod, Int.natCast_add, Int.natCast_mul, Int.natCast_pow]
  simp
theorem ret_ii {a b c d : Int} (h : a = b) (k : c = d) : Ending.returned (.tuple #[.int .i64 a, .int .i64 c]) = .returned (.tuple #[.int .i64 b, .int .i64 d]) := by rw [h, k]
theorem byt_hid (s : ByteArray) (k : Nat) (h : k < s.size) : Hid (s[k].toNat = byt s k) := hid (byt_at s k h).symm
set_option maxHeartbeats 400000 in
theorem adler_more_any (a : Nat) (ha : a < 4294967296) (s : ByteArray) (hs : s.size ≤ lim) (w : World) :
    Calls Tryd.prog 17 #[.int .u32 a, .string s] w fun e w' => e = .returned (.int .u32 (adlN a s : Nat)) ∧ w = w' := by
  unfold lim at hs
  go_enter Tryd.func17, Tryd.ntmps17
  go_wp2
  go_loop [5, 6, 16] (fun x y i => ∃ k : Nat, k ≤ s.size ∧ i = .int .i64 k ∧ x = .int .u32 (adX (a % 65536 % 65521) s k : Nat) ∧ y = .int .u32 (adY (a % 65536 % 65521) (a / 65536 % 65521) s k : Nat)) (fun _ _ i => s.size - (intOf i).toNat)
  case atStart => exact ⟨0, Nat.zero_le _, rfl, rfl, rfl⟩
  case round =>
    obtain ⟨k, hk, rfl, rfl, rfl⟩ := hrel
    have h1 := adX_lt (x := a % 65536 % 65521) (Nat.mod_lt _ (by decide)) s k
    have h2 := adY_lt (x := a % 65536 % 65521) (y := a / 65536 % 65521) (Nat.mod_lt _ (by decide)) s k
    by_cases hlt : k < s.size
    · have HX := hid (adX_succ (a % 65536 % 65521) s k)
      have HY := hid (adY_succ (a % 65536 % 65521) (a / 65536 % 65521) s k)
      have h3 := byt_lt s k
      have HB := byt_hid s k hlt
      rw [← HB.out] at h3
      have h4 := adX_lt (x := a % 65536 % 65521) (Nat.mod_lt _ (by decide)) s (k + 1)
      go_wp2
      go_round
      case rel => exact ⟨k + 1, by omega, by go_num, by rw [HX.out, ← HB.out]; rfl, by rw [HY.out, HX.out, ← HB.out]; rfl⟩
      case measure => simp [intOf]; omega
    · obtain rfl : s.size = k := by omega
      go_wp2
      go_ret
      exact ⟨ret_u32 (by unfold adlN; omega), rfl⟩

set_option maxHeartbeats 400000 in
theorem refadler_more_any (a : Nat) (ha : a < 4294967296) (s : ByteArray) (hs : s.size ≤ lim) (w : World) :
    Calls Tryd.prog 18 #[.int .u32 a, .string s] w fun e w' => e = .returned (.int .u32 (adlN a s : Nat)) ∧ w = w' := by
  unfold lim at hs
  go_enter Tryd.func18, Tryd.ntmps18
  go_wp2
  go_loop [5, 6, 7] (fun x y i => ∃ k : Nat, k ≤ s.size ∧ i = .int .i64 k ∧ x = .int .u32 (adX (a % 65536 % 65521) s k : Nat) ∧ y = .int .u32 (adY (a % 65536 % 65521) (a / 65536 % 65521) s k : Nat)) (fun _ _ i => s.size - (intOf i).toNat)
  case atStart => exact ⟨0, Nat.zero_le _, rfl, rfl, rfl⟩
  case round =>
    obtain ⟨k, hk, rfl, rfl, rfl⟩ := hrel
    have h1 := adX_lt (x := a % 65536 % 65521) (Nat.mod_lt _ (by decide)) s k
    have h2 := adY_lt (x := a % 65536 % 65521) (y := a / 65536 % 65521) (Nat.mod_lt _ (by decide)) s k
    by_cases hlt : k < s.size
    · have HX := hid (adX_succ (a % 65536 % 65521) s k)
      have HY := hid (adY_succ (a % 65536 % 65521) (a / 65536 % 65521) s k)
      have h3 := byt_lt s k
      have HB := byt_hid s k hlt
      rw [← HB.out] at h3
      have h4 := adX_lt (x := a % 65536 % 65521) (Nat.mod_lt _ (by decide)) s (k + 1)
      go_wp2
      go_round
      case rel => exact ⟨k + 1, by omega, by go_num, by rw [HX.out, ← HB.out]; rfl, by rw [HY.out, HX.out, ← HB.out]; rfl⟩
      case measure => simp [intOf]; omega
    · obtain rfl : s.size = k := by omega
      go_wp2
      go_ret
      exact ⟨ret_u32 (by unfold adlN; omega), rfl⟩

set_option maxHeartbeats 400000 in
theorem words_any (s : ByteArray) (hs : s.size ≤ lim) (w : World) :
    Calls Tryd.prog 19 #[.string s] w fun e w' => e = .returned (.int .u32 (wrdN s s.size : Nat)) ∧ w = w' := by
  unfold lim at hs
  go_enter Tryd.func19, Tryd.ntmps19
  go_wp2
  go_loop [3, 7] (fun x i => ∃ k : Nat, k ≤ s.size ∧ i = .int .i64 k ∧ x = .int .u32 (wrdN s k : Nat)) (fun _ i => s.size - (intOf i).toNat)
  case atStart => exact ⟨0, Nat.zero_le _, rfl, rfl⟩
  case round =>
    obtain ⟨k, hk, rfl, rfl⟩ := hrel
    have h1 := wrdN_lt s k
    by_cases hlt : k < s.size
    · have HX := hid (wrdN_succ s k)
      have h3 := byt_lt s k
      have HB := byt_hid s k hlt
      rw [← HB.out] at h3
      go_wp2
      go_round
      case rel => exact ⟨k + 1, by omega, by go_num, by rw [HX.out, ← HB.out, wrd_cast]⟩
      case measure => simp [intOf]; omega
    · obtain rfl : s.size = k := by omega
      go_wp2
      go_ret
      exact ⟨ret_u32 rfl, rfl⟩

def wM (b m q : Nat) : Nat := b * 256 ^ (q - m)
theorem wM_0 (b m : Nat) : wM b m m = b := by simp [wM]
theorem wM_succ (b m q : Nat) (h : m ≤ q) : wM b m (q + 1) = wM b m q * 256 := by unfold wM; rw [Nat.succ_sub h, Nat.pow_succ, Nat.mul_assoc]
theorem wM_lt {b m q : Nat} (hb : b < 256) (h : q ≤ 2) : wM b m q * 256 < 4294967296 := by
  unfold wM
  have h1 : 256 ^ (q - m) ≤ 256 ^ 2 := Nat.pow_le_pow_right (by decide) (by omega)
  have h2 : b * 256 ^ (q - m) ≤ 255 * 256 ^ 2 := Nat.mul_le_mul (by omega) h1
  omega
theorem wM_lt3 {b m q : Nat} (hb : b < 256) (h : q ≤ 3) : wM b m q < 4294967296 := by
  unfold wM
  have h1 : 256 ^ (q - m) ≤ 256 ^ 3 := Nat.pow_le_pow_right (by decide) (by omega)
  have h2 : b * 256 ^ (q - m) ≤ 255 * 256 ^ 3 := Nat.mul_le_mul (by omega) h1
  omega
theorem wM_3 (b m : Nat) (h : m ≤ 3) : wM b m 3 = b * 2 ^ (24 - m * 8) := by
  unfold wM
  rw [show (256 : Nat) = 2 ^ 8 by decide, ← Nat.pow_mul]
  congr 2; omega

set_option maxHeartbeats 400000 in
theorem refwords_any (s : ByteArray) (hs : s.size ≤ lim) (w : World) :
    Calls Tryd.prog 20 #[.string s] w fun e w' => e = .returned (.int .u32 (wrdN s s.size : Nat)) ∧ w = w' := by
  unfold lim at hs
  go_enter Tryd.func20, Tryd.ntmps20
  go_wp2
  go_loop [3, 4] (fun x i => ∃ k : Nat, k ≤ s.size ∧ i = .int .i64 k ∧ x = .int .u32 (wrdN s k : Nat)) (fun _ i => s.size - (intOf i).toNat)
  case atStart => exact ⟨0, Nat.zero_le _, rfl, rfl⟩
  case round =>
    obtain ⟨k, hk, rfl, rfl⟩ := hrel
    have h1 := wrdN_lt s k
    by_cases hlt : k < s.size
    · have HX := hid (wrdN_succ s k)
      have h3 := byt_lt s k
      have HB := byt_hid s k hlt
      rw [← HB.out] at h3
      have hm : k % 4 ≤ 3 := by omega
      go_wp2
      go_loop [5, 6] (fun b q' => ∃ q : Nat, k % 4 ≤ q ∧ q ≤ 3 ∧ q' = .int .i64 q ∧ b = .int .u32 (wM s[k].toNat (k % 4) q : Nat)) (fun _ q => 3 - (intOf q).toNat)
      case atStart => exact ⟨k % 4, Nat.le_refl _, hm, rfl, by rw [wM_0]⟩
      case round =>
        obtain ⟨q, hq, hq3, rfl, rfl⟩ := hrel
        by_cases hql : q < 3
        · have h5 := wM_lt (m := k % 4) h3 (show q ≤ 2 by omega)
          have HM := hid (wM_succ s[k].toNat (k % 4) q hq)
          go_wp2
          go_round
          case rel => exact ⟨q + 1, by omega, by omega, by go_num, by rw [HM.out]; rfl⟩
          case measure => simp [intOf]; omega
        · obtain rfl : 3 = q := by omega
          have h5 := wM_lt3 (m := k % 4) h3 (Nat.le_refl 3)
          have HM := hid (wM_3 s[k].toNat (k % 4) hm)
          go_wp2
          go_round
          case rel => exact ⟨k + 1, by omega, by go_num, by rw [HX.out, ← HB.out, ← HM.out]; rfl⟩
          case measure => simp [intOf]; omega
    · obtain rfl : s.size = k := by omega
      go_wp2
      go_ret
      exact ⟨ret_u32 rfl, rfl⟩

set_option maxRecDepth 20000 in
set_option maxHeartbeats 400000 in
theorem tar_any (s : ByteArray) (hs : s.size = 512) (w : World) :
    Calls Tryd.prog 21 #[.string s] w fun e w' => e = .returned (.tuple #[.int .i64 (tarT s : Nat), .int .i64 0]) ∧ w = w' := by
  have h0 : s.size ≤ 512 := by omega
  have h00 : 512 ≤ s.size := by omega
  have hb : ((s.size : Int) != 512) = false := by simp; omega
  clear hs
  go_enter Tryd.func21, Tryd.ntmps21
  go_wp2
  go_loop [4, 11] (fun x i => ∃ k : Nat, k ≤ 512 ∧ i = .int .i64 k ∧ x = .int .i64 (tarN s k : Nat)) (fun _ i => 512 - (intOf i).toNat)
  case atStart => exact ⟨0, Nat.zero_le _, rfl, rfl⟩
  case round =>
    obtain ⟨k, hk, rfl, rfl⟩ := hrel
    have h1 := tarN_le s k
    by_cases hlt : k < 512
    · have hls : k < s.size := by omega
      have h3 := byt_lt s k
      have HB := byt_hid s k hls
      rw [← HB.out] at h3
      have HX := hid (tarN_succ s k)
      by_cases hin : 148 ≤ k
      · by_cases hin2 : k < 156
        · have HY := hid (HX.out.trans (by rw [if_pos ⟨hin, hin2⟩]))
          go_wp2
          go_round
          case rel => exact ⟨k + 1, by omega, by go_num, by rw [HY.out]; rfl⟩
          case measure => simp [intOf]; omega
        · have HY := hid (HX.out.trans (by rw [if_neg (by omega)]))
          go_wp2
          go_round
          case rel => exact ⟨k + 1, by omega, by go_num, by rw [HY.out, ← HB.out]; rfl⟩
          case measure => simp [intOf]; omega
      · have HY := hid (HX.out.trans (by rw [if_neg (by omega)]))
        go_wp2
        go_round
        case rel => exact ⟨k + 1, by omega, by go_num, by rw [HY.out, ← HB.out]; rfl⟩
        case measure => simp [intOf]; omega
    · go_wp2
      go_ret2
      exact ⟨ret_ii (by rw [tarT_eq s k (by omega)]) rfl, rfl⟩

set_option maxRecDepth 20000 in
set_option maxHeartbeats 400000 in
theorem reftar_any (s : ByteArray) (hs : s.size = 512) (w : World) :
    Calls Tryd.prog 22 #[.string s] w fun e w' => e = .returned (.tuple #[.int .i64 (tarT s : Nat), .int .i64 0]) ∧ w = w' := by
  have h0 : s.size ≤ 512 := by omega
  have h00 : 512 ≤ s.size := by omega
  have hb : ((s.size : Int) != 512) = false := by simp; omega
  clear hs
  go_enter Tryd.func22, Tryd.ntmps22
  go_wp2
  go_loop [4, 5] (fun x i => ∃ k : Nat, k ≤ 512 ∧ i = .int .i64 k ∧ x = .int .i64 (tarN s k : Nat)) (fun _ i => 512 - (intOf i).toNat)
  case atStart => exact ⟨0, Nat.zero_le _, rfl, rfl⟩
  case round =>
    obtain ⟨k, hk, rfl, rfl⟩ := hrel
    have h1 := tarN_le s k
    by_cases hlt : k < 512
    · have hls : k < s.size := by omega
      have h3 := byt_lt s k
      have HB := byt_hid s k hls
      rw [← HB.out] at h3
      have HX := hid (tarN_succ s k)
      by_cases hin : 148 ≤ k
      · by_cases hin2 : k < 156
        · have HY := hid (HX.out.trans (by rw [if_pos ⟨hin, hin2⟩]))
          go_wp2
          go_round
          case rel => exact ⟨k + 1, by omega, by go_num, by rw [HY.out]; rfl⟩
          case measure => simp [intOf]; omega
        · have HY := hid (HX.out.trans (by rw [if_neg (by omega)]))
          go_wp2
          go_round
          case rel => exact ⟨k + 1, by omega, by go_num, by rw [HY.out, ← HB.out]; rfl⟩
          case measure => simp [intOf]; omega
      · have HY := hid (HX.out.trans (by rw [if_neg (by omega)]))
        go_wp2
        go_round
        case rel => exact ⟨k + 1, by omega, by go_num, by rw [HY.out, ← HB.out]; rfl⟩
        case measure => simp [intOf]; omega
    · go_wp2
      go_ret2
      exact ⟨ret_ii (by rw [tarT_eq s k (by omega)]) rfl, rfl⟩

set_option maxHeartbeats 400000 in
theorem tar_bad (s : ByteArray) (hs : s.size ≠ 512) (w : World) :
    Calls Tryd.prog 21 #[.string s] w fun e w' => e = .returned (.tuple #[.int .i64 0, .int .i64 1]) ∧ w = w' := by
  have hb : ((s.size : Int) != 512) = true := by simp; omega
  clear hs
  go_enter Tryd.func21, Tryd.ntmps21
  go_wp2
  go_ret2
  exact ⟨rfl, rfl⟩

set_option maxHeartbeats 400000 in
theorem reftar_bad (s : ByteArray) (hs : s.size ≠ 512) (w : World) :
    Calls Tryd.prog 22 #[.string s] w fun e w' => e = .returned (.tuple #[.int .i64 0, .int .i64 1]) ∧ w = w' := by
  have hb : ((s.size : Int) != 512) = true := by simp; omega
  clear hs
  go_enter Tryd.func22, Tryd.ntmps22
  go_wp2
  go_ret2
  exact ⟨rfl, rfl⟩

set_option maxHeartbeats 400000 in
theorem crc_any (s : ByteArray) (hs : s.size ≤ lim) (w : World) (hh : Halves w) :
    Calls Tryd.prog 10 #[.string s] w fun e w' => e = .returned (.int .u32 (moreN 0 s.data.toList : Nat)) ∧ w = w' := by
  go_enter Tryd.func10, Tryd.ntmps10
  go_wp2_with fail
  refine (more_any 0 (by decide) s hs _ hh).mono ?_
  rintro e w' ⟨rfl, rfl⟩
  go_wp2
  go_ret
  exact ⟨rfl, rfl⟩

set_option maxHeartbeats 400000 in
theorem refcrc_any (s : ByteArray) (hs : s.size ≤ lim) (w : World)  :
    Calls Tryd.prog 11 #[.string s] w fun e w' => e = .returned (.int .u32 (moreN 0 s.data.toList : Nat)) ∧ w = w' := by
  go_enter Tryd.func11, Tryd.ntmps11
  go_wp2_with fail
  refine (refmore_any 0 (by decide) s hs _).mono ?_
  rintro e w' ⟨rfl, rfl⟩
  go_wp2
  go_ret
  exact ⟨rfl, rfl⟩

set_option maxHeartbeats 400000 in
theorem adler_any (s : ByteArray) (hs : s.size ≤ lim) (w : World)  :
    Calls Tryd.prog 15 #[.string s] w fun e w' => e = .returned (.int .u32 (adlN 1 s : Nat)) ∧ w = w' := by
  go_enter Tryd.func15, Tryd.ntmps15
  go_wp2_with fail
  refine (adler_more_any 1 (by decide) s hs _).mono ?_
  rintro e w' ⟨rfl, rfl⟩
  go_wp2
  go_ret
  exact ⟨rfl, rfl⟩

set_option maxHeartbeats 400000 in
theorem refadler_any (s : ByteArray) (hs : s.size ≤ lim) (w : World)  :
    Calls Tryd.prog 16 #[.string s] w fun e w' => e = .returned (.int .u32 (adlN 1 s : Nat)) ∧ w = w' := by
  go_enter Tryd.func16, Tryd.ntmps16
  go_wp2_with fail
  refine (refadler_more_any 1 (by decide) s hs _).mono ?_
  rintro e w' ⟨rfl, rfl⟩
  go_wp2
  go_ret
  exact ⟨rfl, rfl⟩
end Go.Proofs.YtkdnlnnmeeeolaaDoor
