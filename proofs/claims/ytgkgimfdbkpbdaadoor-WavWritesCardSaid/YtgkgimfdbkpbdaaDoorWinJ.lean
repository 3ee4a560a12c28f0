/- What a window's Uint returns, for every window, place, width and both orders (contracts of the functions; a text has at most 2^48 bytes, a window begins within 0 to 2^48). -/
import Derived.Test.YtgkgimfdbkpbdaaDoorWinJa
import Derived.Test.YtgkgimfdbkpbdaaDoorWinJb
import Derived.Test.YtgkgimfdbkpbdaaDoorWinJc
import Derived.Deep.RegionWith
namespace Go.Proofs.YtgkgimfdbkpbdaaDoor
open Go.RowKit
set_option linter.unusedVariables false

theorem uint_any (b : Int) (b0 : 0 ≤ b) (b1 : b ≤ 281474976710656) (s : ByteArray) (hs : s.size ≤ lim) (a d : Int) (big : Bool) (w : World) :
    Calls Tryd.prog 43 #[.agg #[.int .i64 b, .string s], .int .i64 a, .int .i64 d, .bool big] w fun e w' => e = .returned (.tuple #[.int .u64 (uintV s a d big), .int .i64 (uintE s.size a d)]) ∧ Bw w w' := by
  by_cases hw : widB d = true
  · obtain ⟨k, rfl, hk⟩ := wid_cases hw
    have HU := uintE_sub (z := s.size) (a := a) hw
    by_cases hE : subE s.size a k = 0
    · have hE' := HU.trans hE
      have h0 : ¬ (a < 0 ∨ (k : Int) < 0) := fun h => by rw [subE_arg h] at hE; cases hE
      have h1 : ¬ ((s.size : Int) < a ∨ (s.size : Int) - a < k) := fun h => by rw [subE_cut h0 h] at hE; cases hE
      obtain ⟨p, rfl⟩ := Int.eq_ofNat_of_zero_le (show 0 ≤ a by omega)
      have hV := uintV_ok (big := big) hE'
      rw [hE', hV]
      simp only [Int.toNat_natCast]
      cases big
      · exact uint_little b b0 b1 s hs p k (by omega) (by omega) hw (by omega) w
      · exact uint_big b b0 b1 s hs p k (by omega) (by omega) hw (by omega) w
    · have hV := uintV_bad (big := big) (show uintE s.size a k ≠ 0 by rw [HU]; exact hE)
      rw [hV, HU]
      exact uint_bad b b0 b1 s hs a k big hw (by simpa using hE) w
  · have hw1 : widB d = false := by simpa using hw
    have HE := hid (uintE_bad (z := s.size) (a := a) hw1)
    have HV := hid (uintV_bad (s := s) (big := big) (show uintE s.size a d ≠ 0 by rw [HE.out]; decide))
    clear hw
    go_enter Tryd.func43, Tryd.ntmps43
    go_wp2_with (go_at_call 61; refine (isWidth_any _ _).mono ?_; rintro e w' ⟨rfl, rfl⟩)
    go_returns
    exact ⟨ret_u HV.out.symm HE.out.symm, by unfold Bw; go_grown⟩

end Go.Proofs.YtgkgimfdbkpbdaaDoor
