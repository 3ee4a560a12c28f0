/- The sum of a text's words (contract of the function; a text has at most 2^48 bytes). -/
import Derived.Test.YtciaebhkemdilabSumN
import Derived.Test.YtciaebhkemdilabWinY
namespace Go.Proofs.Ytciaebhkemdilab
open Go.RowKit
set_option linter.unusedVariables false

theorem ret_u32 {a b : Int} (h : a = b) : Ending.returned (.int .u32 a) = .returned (.int .u32 b) := by rw [h]
theorem wrd_cast (a b e : Nat) : ((a : Int) + (b : Int) * 2 ^ e % 4294967296) % 4294967296 = (((a + b * 2 ^ e) % 4294967296 : Nat) : Int) := by
  rw [Int.natCast_emod, Int.natCast_add, Int.natCast_mul, Int.natCast_pow]
  simp
theorem byt_hid (s : ByteArray) (k : Nat) (h : k < s.size) : Hid (s[k].toNat = byt s k) := hid (byt_at s k h).symm
set_option maxHeartbeats 400000 in
theorem words_any (s : ByteArray) (hs : s.size ≤ lim) (w : World) :
    Calls Try.prog 11 #[.string s] w fun e w' => e = .returned (.int .u32 (wrdN s s.size : Nat)) ∧ w = w' := by
  unfold lim at hs
  go_enter Try.func11, Try.ntmps11
  go_wp2
  go_loop [3, 7] (fun x i => ∃ k : Nat, k ≤ s.size ∧ i = .int .i64 k ∧ x = .int .u32 (wrdN s k : Nat)) (fun _ i => s.size - (intOf i).toNat)
  case atStart => exact ⟨0, Nat.zero_le _, rfl, rfl⟩
  case round =>
    obtain ⟨k, hk, rfl, rfl⟩ := hrel
    have h1 := wrdN_lt s k
    by_cases hlt : k < s.size
    · have HX := hid (wrdN_succ s k)
      have h3 := byt_lt s k
      have HB := byt_hid s k hlt
      rw [← HB.out] at h3
      go_wp2
      go_round
      case rel => exact ⟨k + 1, by omega, by go_num, by rw [HX.out, ← HB.out, wrd_cast]⟩
      case measure => simp [intOf]; omega
    · obtain rfl : s.size = k := by omega
      go_wp2
      go_ret
      exact ⟨ret_u32 rfl, rfl⟩

end Go.Proofs.Ytciaebhkemdilab
