import Derived.Test.YtciaebhkemdilabWinY
import Derived.Deep.RegionWith
/- What a window's Uint returns, for every window, place, width and both orders (contracts of the functions; a text has at most 2^48 bytes, a window begins within 0 to 2^48). -/
namespace Go.Proofs.Ytciaebhkemdilab
open Go.RowKit
set_option linter.unusedVariables false

set_option maxRecDepth 100000 in
set_option maxHeartbeats 1000000 in
theorem uint_big (b : Int) (b0 : 0 ≤ b) (b1 : b ≤ 281474976710656) (s : ByteArray) (hs : s.size ≤ lim) (p d : Nat) (hd1 : 1 ≤ d) (hd2 : d ≤ 8) (hw : widB (d : Int) = true) (hpd : p + d ≤ s.size) (w : World) :
    Calls Try.prog 37 #[.agg #[.int .i64 b, .string s], .int .i64 p, .int .i64 d, .bool true] w fun e w' => e = .returned (.tuple #[.int .u64 (numAt s p d true), .int .i64 0]) ∧ Bw w w' := by
  have hmf : ∀ (fn : Fn) (first cap : Array Value) (w : World), (Instr.makeFunc fn first cap).run Try.prog w = .ok (.func fn first cap) w := fun _ _ _ _ => rfl
  obtain ⟨T, hT0⟩ : ∃ T, s.extract p (p + d) = T := ⟨_, rfl⟩
  have hTs : T.size = d := by rw [← hT0]; simp; omega
  have hT := hid hT0
  have hT1 : T.size ≤ d := by omega
  have hT2 : d ≤ T.size := by omega
  clear hT0 hTs
  have Hs := hid hs
  go_enter Try.func37, Try.ntmps37
  go_wp2_with (go_at_call 53; refine (isWidth_any _ _).mono ?_; rintro e w' ⟨rfl, rfl⟩)
  go_region_with (first | (go_at_call 55; refine (order_big _ _).mono ?_; rintro e w1 ⟨rfl, rfl⟩) | (go_at_call 54; refine (number_big b b0 b1 s Hs.out p d hd1 hd2 hpd T hT hT1 hT2 _ _ ?_ ?_).mono ?_; (simp); (simp); rintro e w2 ⟨rfl, hw2⟩))
  all_goals go_wp2
  all_goals go_returns
  all_goals refine ⟨rfl, Below.trans ?_ (Below.mono hw2 ?_)⟩
  all_goals first | go_grown | (simp; try omega)

end Go.Proofs.Ytciaebhkemdilab
/- What a window's Uint returns, for every window, place, width and both orders (contracts of the functions; a text has at most 2^48 bytes, a window begins within 0 to 2^48). -/
namespace Go.Proofs.Ytciaebhkemdilab
open Go.RowKit
set_option linter.unusedVariables false

set_option maxRecDepth 100000 in
set_option maxHeartbeats 1000000 in
theorem uint_little (b : Int) (b0 : 0 ≤ b) (b1 : b ≤ 281474976710656) (s : ByteArray) (hs : s.size ≤ lim) (p d : Nat) (hd1 : 1 ≤ d) (hd2 : d ≤ 8) (hw : widB (d : Int) = true) (hpd : p + d ≤ s.size) (w : World) :
    Calls Try.prog 37 #[.agg #[.int .i64 b, .string s], .int .i64 p, .int .i64 d, .bool false] w fun e w' => e = .returned (.tuple #[.int .u64 (numAt s p d false), .int .i64 0]) ∧ Bw w w' := by
  have hmf : ∀ (fn : Fn) (first cap : Array Value) (w : World), (Instr.makeFunc fn first cap).run Try.prog w = .ok (.func fn first cap) w := fun _ _ _ _ => rfl
  obtain ⟨T, hT0⟩ : ∃ T, s.extract p (p + d) = T := ⟨_, rfl⟩
  have hTs : T.size = d := by rw [← hT0]; simp; omega
  have hT := hid hT0
  have hT1 : T.size ≤ d := by omega
  have hT2 : d ≤ T.size := by omega
  clear hT0 hTs
  have Hs := hid hs
  go_enter Try.func37, Try.ntmps37
  go_wp2_with (go_at_call 53; refine (isWidth_any _ _).mono ?_; rintro e w' ⟨rfl, rfl⟩)
  go_region_with (first | (go_at_call 55; refine (order_little _ _).mono ?_; rintro e w1 ⟨rfl, rfl⟩) | (go_at_call 54; refine (number_little b b0 b1 s Hs.out p d hd1 hd2 hpd T hT hT1 hT2 _).mono ?_; rintro e w2 ⟨rfl, hw2⟩))
  all_goals go_wp2
  all_goals go_returns
  all_goals refine ⟨rfl, Below.trans ?_ (Below.mono hw2 ?_)⟩
  all_goals first | go_grown | (simp; try omega)

end Go.Proofs.Ytciaebhkemdilab
/- What a window's Uint returns, for every window, place, width and both orders (contracts of the functions; a text has at most 2^48 bytes, a window begins within 0 to 2^48). -/
namespace Go.Proofs.Ytciaebhkemdilab
open Go.RowKit
set_option linter.unusedVariables false

set_option maxRecDepth 100000 in
set_option maxHeartbeats 2000000 in
theorem uint_bad (b : Int) (b0 : 0 ≤ b) (b1 : b ≤ 281474976710656) (s : ByteArray) (hs : s.size ≤ lim) (a d : Int) (big : Bool) (hw : widB d = true) (hE : (subE s.size a d != 0) = true) (w : World) :
    Calls Try.prog 37 #[.agg #[.int .i64 b, .string s], .int .i64 a, .int .i64 d, .bool big] w fun e w' => e = .returned (.tuple #[.int .u64 0, .int .i64 (subE s.size a d)]) ∧ Bw w w' := by
  have hmf : ∀ (fn : Fn) (first cap : Array Value) (w : World), (Instr.makeFunc fn first cap).run Try.prog w = .ok (.func fn first cap) w := fun _ _ _ _ => rfl
  cases big
  all_goals
    go_enter Try.func37, Try.ntmps37
    go_wp2_with (go_at_call 53; refine (isWidth_any _ _).mono ?_; rintro e w' ⟨rfl, rfl⟩)
    go_region_with (first | (go_at_call 55; (first | (with_reducible refine (order_big _ _).mono ?_) | (with_reducible refine (order_little _ _).mono ?_)); rintro e w1 ⟨rfl, rfl⟩) | (go_at_call 54; refine (number_bad b b0 b1 s hs a d hE _ _).mono ?_; rintro e w2 ⟨rfl, hw2⟩))
    all_goals go_wp2
    all_goals go_returns
    all_goals refine ⟨rfl, Below.trans ?_ (Below.mono hw2 ?_)⟩
    all_goals first | go_grown | (simp; try omega)

end Go.Proofs.Ytciaebhkemdilab
/- What a window's Uint returns, for every window, place, width and both orders (contracts of the functions; a text has at most 2^48 bytes, a window begins within 0 to 2^48). -/
namespace Go.Proofs.Ytciaebhkemdilab
open Go.RowKit
set_option linter.unusedVariables false

theorem uint_any (b : Int) (b0 : 0 ≤ b) (b1 : b ≤ 281474976710656) (s : ByteArray) (hs : s.size ≤ lim) (a d : Int) (big : Bool) (w : World) :
    Calls Try.prog 37 #[.agg #[.int .i64 b, .string s], .int .i64 a, .int .i64 d, .bool big] w fun e w' => e = .returned (.tuple #[.int .u64 (uintV s a d big), .int .i64 (uintE s.size a d)]) ∧ Bw w w' := by
  by_cases hw : widB d = true
  · obtain ⟨k, rfl, hk⟩ := wid_cases hw
    have HU := uintE_sub (z := s.size) (a := a) hw
    by_cases hE : subE s.size a k = 0
    · have hE' := HU.trans hE
      have h0 : ¬ (a < 0 ∨ (k : Int) < 0) := fun h => by rw [subE_arg h] at hE; cases hE
      have h1 : ¬ ((s.size : Int) < a ∨ (s.size : Int) - a < k) := fun h => by rw [subE_cut h0 h] at hE; cases hE
      obtain ⟨p, rfl⟩ := Int.eq_ofNat_of_zero_le (show 0 ≤ a by omega)
      have hV := uintV_ok (big := big) hE'
      rw [hE', hV]
      simp only [Int.toNat_natCast]
      cases big
      · exact uint_little b b0 b1 s hs p k (by omega) (by omega) hw (by omega) w
      · exact uint_big b b0 b1 s hs p k (by omega) (by omega) hw (by omega) w
    · have hV := uintV_bad (big := big) (show uintE s.size a k ≠ 0 by rw [HU]; exact hE)
      rw [hV, HU]
      exact uint_bad b b0 b1 s hs a k big hw (by simpa using hE) w
  · have hw1 : widB d = false := by simpa using hw
    have HE := hid (uintE_bad (z := s.size) (a := a) hw1)
    have HV := hid (uintV_bad (s := s) (big := big) (show uintE s.size a d ≠ 0 by rw [HE.out]; decide))
    clear hw
    go_enter Try.func37, Try.ntmps37
    go_wp2_with (go_at_call 53; refine (isWidth_any _ _).mono ?_; rintro e w' ⟨rfl, rfl⟩)
    go_returns
    exact ⟨ret_u HV.out.symm HE.out.symm, by unfold Bw; go_grown⟩

end Go.Proofs.Ytciaebhkemdilab
