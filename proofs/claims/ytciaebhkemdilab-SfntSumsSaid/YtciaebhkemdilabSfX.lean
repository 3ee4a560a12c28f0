/- The sum of a text's words, the document's (contract of the function; a text has at most 2^48 bytes). -/
import Derived.Test.YtciaebhkemdilabSfW
namespace Go.Proofs.Ytciaebhkemdilab
open Go.RowKit
set_option linter.unusedVariables false

def wM (b m q : Nat) : Nat := b * 256 ^ (q - m)
theorem wM_0 (b m : Nat) : wM b m m = b := by simp [wM]
theorem wM_succ (b m q : Nat) (h : m ≤ q) : wM b m (q + 1) = wM b m q * 256 := by unfold wM; rw [Nat.succ_sub h, Nat.pow_succ, Nat.mul_assoc]
theorem wM_lt {b m q : Nat} (hb : b < 256) (h : q ≤ 2) : wM b m q * 256 < 4294967296 := by
  unfold wM
  have h1 : 256 ^ (q - m) ≤ 256 ^ 2 := Nat.pow_le_pow_right (by decide) (by omega)
  have h2 : b * 256 ^ (q - m) ≤ 255 * 256 ^ 2 := Nat.mul_le_mul (by omega) h1
  omega
theorem wM_lt3 {b m q : Nat} (hb : b < 256) (h : q ≤ 3) : wM b m q < 4294967296 := by
  unfold wM
  have h1 : 256 ^ (q - m) ≤ 256 ^ 3 := Nat.pow_le_pow_right (by decide) (by omega)
  have h2 : b * 256 ^ (q - m) ≤ 255 * 256 ^ 3 := Nat.mul_le_mul (by omega) h1
  omega
theorem wM_3 (b m : Nat) (h : m ≤ 3) : wM b m 3 = b * 2 ^ (24 - m * 8) := by
  unfold wM
  rw [show (256 : Nat) = 2 ^ 8 by decide, ← Nat.pow_mul]
  congr 2; omega
set_option maxHeartbeats 400000 in
theorem refwords_any (s : ByteArray) (hs : s.size ≤ lim) (w : World) :
    Calls Try.prog 12 #[.string s] w fun e w' => e = .returned (.int .u32 (wrdN s s.size : Nat)) ∧ w = w' := by
  unfold lim at hs
  go_enter Try.func12, Try.ntmps12
  go_wp2
  go_loop [3, 4] (fun x i => ∃ k : Nat, k ≤ s.size ∧ i = .int .i64 k ∧ x = .int .u32 (wrdN s k : Nat)) (fun _ i => s.size - (intOf i).toNat)
  case atStart => exact ⟨0, Nat.zero_le _, rfl, rfl⟩
  case round =>
    obtain ⟨k, hk, rfl, rfl⟩ := hrel
    have h1 := wrdN_lt s k
    by_cases hlt : k < s.size
    · have HX := hid (wrdN_succ s k)
      have h3 := byt_lt s k
      have HB := byt_hid s k hlt
      rw [← HB.out] at h3
      have hm : k % 4 ≤ 3 := by omega
      go_wp2
      go_loop [5, 6] (fun b q' => ∃ q : Nat, k % 4 ≤ q ∧ q ≤ 3 ∧ q' = .int .i64 q ∧ b = .int .u32 (wM s[k].toNat (k % 4) q : Nat)) (fun _ q => 3 - (intOf q).toNat)
      case atStart => exact ⟨k % 4, Nat.le_refl _, hm, rfl, by rw [wM_0]⟩
      case round =>
        obtain ⟨q, hq, hq3, rfl, rfl⟩ := hrel
        by_cases hql : q < 3
        · have h5 := wM_lt (m := k % 4) h3 (show q ≤ 2 by omega)
          have HM := hid (wM_succ s[k].toNat (k % 4) q hq)
          go_wp2
          go_round
          case rel => exact ⟨q + 1, by omega, by omega, by go_num, by rw [HM.out]; rfl⟩
          case measure => simp [intOf]; omega
        · obtain rfl : 3 = q := by omega
          have h5 := wM_lt3 (m := k % 4) h3 (Nat.le_refl 3)
          have HM := hid (wM_3 s[k].toNat (k % 4) hm)
          go_wp2
          go_round
          case rel => exact ⟨k + 1, by omega, by go_num, by rw [HX.out, ← HB.out, ← HM.out]; rfl⟩
          case measure => simp [intOf]; omega
    · obtain rfl : s.size = k := by omega
      go_wp2
      go_ret
      exact ⟨ret_u32 rfl, rfl⟩

end Go.Proofs.Ytciaebhkemdilab
