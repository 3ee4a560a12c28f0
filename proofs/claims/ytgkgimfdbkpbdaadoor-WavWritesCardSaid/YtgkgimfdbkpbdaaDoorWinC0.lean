/- What win's widths, windows and parts return, for every text and every pair of ints (contracts of the functions; a text has at most 2^48 bytes, a window begins within 0 to 2^48). -/
import Derived.Test.YtgkgimfdbkpbdaaDoorRows
import Derived.Test.YtgkgimfdbkpbdaaDoorBase
namespace Go.Proofs.YtgkgimfdbkpbdaaDoor
open Go.RowKit
set_option linter.unusedVariables false

def widB (n : Int) : Bool := decide (n = 1 ∨ n = 2 ∨ n = 4 ∨ n = 8)

set_option maxHeartbeats 400000 in
theorem isWidth_any (n : Int) (w : World) :
    Calls Tryd.prog 61 #[.int .i64 n] w fun e w' => e = .returned (.bool (widB n)) ∧ w = w' := by
  go_enter Tryd.func61, Tryd.ntmps61
  go_wp2
  all_goals (go_ret; refine ⟨ret_bool ?_, rfl⟩; rw [Bool.eq_iff_iff]; simp [widB]; try omega)

set_option maxHeartbeats 400000 in
theorem width_any (n : Int) (w : World) :
    Calls Tryd.prog 51 #[.int .i64 n] w fun e w' => e = .returned (.bool (widB n)) ∧ w = w' := by
  go_enter Tryd.func51, Tryd.ntmps51
  go_wp2
  all_goals (go_ret; refine ⟨ret_bool ?_, rfl⟩; rw [Bool.eq_iff_iff]; simp [widB]; try omega)

def lim : Nat := 281474976710656
def subE (z : Nat) (at' n : Int) : Int := if at' < 0 ∨ n < 0 then 1 else if (z : Int) < at' ∨ (z : Int) - at' < n then 2 else 0
def subS (s : ByteArray) (at' n : Int) : ByteArray := if subE s.size at' n = 0 then s.extract at'.toNat (at'.toNat + n.toNat) else ByteArray.empty
def subB (z : Nat) (b at' n : Int) : Int := if subE z at' n = 0 then b + at' else 0
theorem subE_arg {z : Nat} {a n : Int} (h : a < 0 ∨ n < 0) : subE z a n = 1 := if_pos h
theorem subE_cut {z : Nat} {a n : Int} (h : ¬ (a < 0 ∨ n < 0)) (k : (z : Int) < a ∨ (z : Int) - a < n) : subE z a n = 2 := by rw [subE, if_neg h, if_pos k]
theorem subE_ok {z : Nat} {a n : Int} (h : ¬ (a < 0 ∨ n < 0)) (k : ¬ ((z : Int) < a ∨ (z : Int) - a < n)) : subE z a n = 0 := by rw [subE, if_neg h, if_neg k]
theorem subS_bad {s : ByteArray} {a n : Int} (h : subE s.size a n ≠ 0) : subS s a n = ByteArray.empty := if_neg h
theorem subS_ok {s : ByteArray} {a n : Int} (h : subE s.size a n = 0) : subS s a n = s.extract a.toNat (a.toNat + n.toNat) := if_pos h
theorem subB_bad {z : Nat} {b a n : Int} (h : subE z a n ≠ 0) : subB z b a n = 0 := if_neg h
theorem subB_ok {z : Nat} {b a n : Int} (h : subE z a n = 0) : subB z b a n = b + a := if_pos h
theorem ret_win {b c : Int} {s t : ByteArray} {e f : Int} (h : b = c) (k : s = t) (l : e = f) : Ending.returned (.tuple #[.agg #[.int .i64 b, .string s], .int .i64 e]) = .returned (.tuple #[.agg #[.int .i64 c, .string t], .int .i64 f]) := by rw [h, k, l]
set_option maxHeartbeats 400000 in
theorem of_any (s : ByteArray) (w : World) :
    Calls Tryd.prog 20 #[.string s] w fun e w' => e = .returned (.agg #[.int .i64 0, .string s]) ∧ Bw w w' := by
  go_enter Tryd.func20, Tryd.ntmps20
  go_wp2
  go_returns
  exact ⟨rfl, by unfold Bw; go_grown⟩

set_option maxHeartbeats 400000 in
theorem text_any (b : Int) (s : ByteArray) (hs : s.size ≤ lim) (w : World) :
    Calls Tryd.prog 41 #[.agg #[.int .i64 b, .string s]] w fun e w' => e = .returned (.string s) ∧ Bw w w' := by
  unfold lim at hs
  go_enter Tryd.func41, Tryd.ntmps41
  go_wp2
  go_returns
  exact ⟨rfl, by unfold Bw; go_grown⟩

set_option maxHeartbeats 400000 in
theorem len_any (b : Int) (s : ByteArray) (hs : s.size ≤ lim) (w : World) :
    Calls Tryd.prog 44 #[.agg #[.int .i64 b, .string s]] w fun e w' => e = .returned (.int .i64 s.size) ∧ Bw w w' := by
  unfold lim at hs
  go_enter Tryd.func44, Tryd.ntmps44
  go_wp2
  go_returns
  exact ⟨rfl, by unfold Bw; go_grown⟩

set_option maxHeartbeats 1000000 in
theorem sub_any (b : Int) (b0 : 0 ≤ b) (b1 : b ≤ 281474976710656) (s : ByteArray) (hs : s.size ≤ lim) (a n : Int) (w : World) :
    Calls Tryd.prog 40 #[.agg #[.int .i64 b, .string s], .int .i64 a, .int .i64 n] w fun e w' => e = .returned (.tuple #[.agg #[.int .i64 (subB s.size b a n), .string (subS s a n)], .int .i64 (subE s.size a n)]) ∧ Bw w w' := by
  unfold lim at hs
  by_cases ha : a < 0
  · have HK := hid (subE_arg (z := s.size) (a := a) (n := n) (.inl ha))
    go_enter Tryd.func40, Tryd.ntmps40
    go_wp2
    go_returns
    exact ⟨ret_win (subB_bad (by rw [HK.out]; decide)).symm (subS_bad (by rw [HK.out]; decide)).symm HK.out.symm, by unfold Bw; go_grown⟩
  · by_cases hn : n < 0
    · have HK := hid (subE_arg (z := s.size) (a := a) (n := n) (.inr hn))
      go_enter Tryd.func40, Tryd.ntmps40
      go_wp2
      go_returns
      exact ⟨ret_win (subB_bad (by rw [HK.out]; decide)).symm (subS_bad (by rw [HK.out]; decide)).symm HK.out.symm, by unfold Bw; go_grown⟩
    · by_cases hc : (s.size : Int) < a
      · have HK := hid (subE_cut (z := s.size) (a := a) (n := n) (by omega) (.inl hc))
        go_enter Tryd.func40, Tryd.ntmps40
        go_wp2
        go_returns
        exact ⟨ret_win (subB_bad (by rw [HK.out]; decide)).symm (subS_bad (by rw [HK.out]; decide)).symm HK.out.symm, by unfold Bw; go_grown⟩
      · by_cases hd : (s.size : Int) - a < n
        · have HK := hid (subE_cut (z := s.size) (a := a) (n := n) (by omega) (.inr hd))
          go_enter Tryd.func40, Tryd.ntmps40
          go_wp2
          go_returns
          exact ⟨ret_win (subB_bad (by rw [HK.out]; decide)).symm (subS_bad (by rw [HK.out]; decide)).symm HK.out.symm, by unfold Bw; go_grown⟩
        · have HK := hid (subE_ok (z := s.size) (a := a) (n := n) (by omega) (by omega))
          obtain ⟨p, rfl⟩ := Int.eq_ofNat_of_zero_le (show 0 ≤ a by omega)
          obtain ⟨k, rfl⟩ := Int.eq_ofNat_of_zero_le (show 0 ≤ n by omega)
          go_enter Tryd.func40, Tryd.ntmps40
          go_wp2
          go_region
          go_wp2
          go_returns
          exact ⟨ret_win (subB_ok HK.out).symm (subS_ok HK.out).symm HK.out.symm, by unfold Bw; go_grown⟩

end Go.Proofs.YtgkgimfdbkpbdaaDoor
