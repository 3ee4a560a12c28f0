import Derived.Test.YtciaebhkemdilaaWinY
import Derived.Deep.RegionWith
/- What the document's Bytes returns, for every number below 2^64, every width and both orders (contracts of the functions). -/
namespace Go.Proofs.Ytciaebhkemdilaa
open Go.RowKit
set_option linter.unusedVariables false
theorem low_wrap (m k : Nat) (hm : (m : Int) < 18446744073709551616) : IntKind.u64.wrap ((low m k : Int) / 256) = (low m (k + 1) : Int) := by
  have h0 := low_le m k
  have h1 : (0 : Int) ≤ (low m k : Int) := Int.natCast_nonneg _
  rw [IntKind.wrap_u64, low_succ]
  omega
theorem u64_eq {a b : Int} (h : a = b) : Value.int .u64 a = .int .u64 b := by rw [h]

set_option maxRecDepth 100000 in
set_option maxHeartbeats 1000000 in
theorem refbytes_little (m d : Nat) (hm : (m : Int) < 18446744073709551616) (hd : 1 ≤ d) (hd8 : d ≤ 8) (hw : widB (d : Int) = true) (w : World) :
    Calls Try.prog 91 #[.int .u64 m, .int .i64 d, .bool false] w fun e w' => e = .returned (.tuple #[.string (bytesV m d false), .int .i64 (bytesE m d)]) ∧ Bw w w' := by
  obtain ⟨i0, hi, hz0, hz1, hz2⟩ := info_parts u8info
  have hmk := fun (w : World) => run_make (P := Try.prog) w 40 5 i0 (.int .u8 0) Try.underlying40 hi hz0 .i64 .i64 (d : Int) (d : Int) (by omega) (by omega) (by rw [hz2]; omega) (by omega)
  have HW := hid hw
  have HM := hid hm
  clear hm
  go_enter Try.func91, Try.ntmps91
  go_wp2_with (go_at_call 81; refine (width_any _ _).mono ?_; rintro e w' ⟨rfl, rfl⟩)
  clear hmk
  go_loopw [0, 9] (fun n i wr => ∃ k : Nat, k ≤ d ∧ n = .int .u64 (low m k) ∧ i = .int .i64 k ∧ Has wr w.heap.size 5 (upto m d false k) ∧ Below w.heap.size w wr)
    (fun _ i _ => d - (intOf i).toNat)
  case atStart =>
    refine ⟨0, Nat.zero_le _, by rw [low_zero], rfl, ?_, (Below.refl _ _).alloc (Nat.le_refl _) _⟩
    rw [← upto_zero]
    exact Has.new w _ _
  case round =>
    obtain ⟨k, hk, rfl, rfl, hB, hbel⟩ := hrel
    have hL0 : (0 : Int) ≤ (low m k : Int) := Int.natCast_nonneg _
    have hL1 : (low m k : Int) ≤ (m : Int) := by have := low_le m k; omega
    by_cases hlt : k < d
    · have hcB := hB.cell (k)
      rw [upto_get m d false k hlt] at hcB
      have hfB := hB.frozen (k)
      go_wp2
      all_goals go_roundw
      case rel =>
        refine ⟨k + 1, by omega, u64_eq (low_wrap m k HM.out), by go_num, ?_, hbel.setCell (by simp) _⟩
        have h1 := hB.put (k) (.int .u8 (byteAt m d false (k)))
        rw [upto_set, ← low_little m d k] at h1
        exact h1
      case measure => simp [intOf]; omega
    · obtain rfl : k = d := by omega
      by_cases hz : low m k = 0
      · have HE := hid (bytesE_ok HW.out ((low_zero_iff m k).1 hz))
        rw [upto_full m k false] at hB
        have hz1 : (low m k : Int) ≤ 0 := by omega
        clear hz hL0 hL1 HM hlt hk hi hz0 hz2
        have hcv := conv_fill (P := Try.prog) wr 40 9 5 Try.underlying40 Try.underlying5 Try.underlying9 (c := k) hB (fun j _ => byteAt_bd m k false j)
        go_wp2
        go_returns
        exact ⟨ret_str (bytesV_ok HE.out).symm HE.out.symm, Bw.at_end hbel⟩
      · have HE := hid (bytesE_field HW.out (fun h => hz ((low_zero_iff m k).2 h)))
        have hz1 : (0 : Int) < (low m k : Int) := by omega
        clear hz hL0 hL1 HM hlt hk hi hz0 hz2
        go_wp2
        go_returns
        exact ⟨ret_str (bytesV_bad (by rw [HE.out]; decide)).symm HE.out.symm, Bw.at_end hbel⟩

set_option maxRecDepth 100000 in
set_option maxHeartbeats 1000000 in
theorem refbytes_big (m d : Nat) (hm : (m : Int) < 18446744073709551616) (hd : 1 ≤ d) (hd8 : d ≤ 8) (hw : widB (d : Int) = true) (w : World) :
    Calls Try.prog 91 #[.int .u64 m, .int .i64 d, .bool true] w fun e w' => e = .returned (.tuple #[.string (bytesV m d true), .int .i64 (bytesE m d)]) ∧ Bw w w' := by
  obtain ⟨i0, hi, hz0, hz1, hz2⟩ := info_parts u8info
  have hmk := fun (w : World) => run_make (P := Try.prog) w 40 5 i0 (.int .u8 0) Try.underlying40 hi hz0 .i64 .i64 (d : Int) (d : Int) (by omega) (by omega) (by rw [hz2]; omega) (by omega)
  have HW := hid hw
  have HM := hid hm
  clear hm
  go_enter Try.func91, Try.ntmps91
  go_wp2_with (go_at_call 81; refine (width_any _ _).mono ?_; rintro e w' ⟨rfl, rfl⟩)
  clear hmk
  go_loopw [0, 9] (fun n i wr => ∃ k : Nat, k ≤ d ∧ n = .int .u64 (low m k) ∧ i = .int .i64 k ∧ Has wr w.heap.size 5 (downto m d k) ∧ Below w.heap.size w wr)
    (fun _ i _ => d - (intOf i).toNat)
  case atStart =>
    refine ⟨0, Nat.zero_le _, by rw [low_zero], rfl, ?_, (Below.refl _ _).alloc (Nat.le_refl _) _⟩
    rw [← downto_zero]
    exact Has.new w _ _
  case round =>
    obtain ⟨k, hk, rfl, rfl, hB, hbel⟩ := hrel
    have hL0 : (0 : Int) ≤ (low m k : Int) := Int.natCast_nonneg _
    have hL1 : (low m k : Int) ≤ (m : Int) := by have := low_le m k; omega
    by_cases hlt : k < d
    · have hcB := hB.cell (d - 1 - k)
      rw [downto_get m d k hlt] at hcB
      have hfB := hB.frozen (d - 1 - k)
      go_wp2
      all_goals go_roundw
      case rel =>
        refine ⟨k + 1, by omega, u64_eq (low_wrap m k HM.out), by go_num, ?_, hbel.setCell (by simp) _⟩
        have h1 := hB.put (d - 1 - k) (.int .u8 (byteAt m d true (d - 1 - k)))
        rw [downto_set m d k hlt, ← low_big m d k hlt] at h1
        exact h1
      case measure => simp [intOf]; omega
    · obtain rfl : k = d := by omega
      by_cases hz : low m k = 0
      · have HE := hid (bytesE_ok HW.out ((low_zero_iff m k).1 hz))
        rw [downto_full m k] at hB
        have hz1 : (low m k : Int) ≤ 0 := by omega
        clear hz hL0 hL1 HM hlt hk hi hz0 hz2
        have hcv := conv_fill (P := Try.prog) wr 40 9 5 Try.underlying40 Try.underlying5 Try.underlying9 (c := k) hB (fun j _ => byteAt_bd m k true j)
        go_wp2
        go_returns
        exact ⟨ret_str (bytesV_ok HE.out).symm HE.out.symm, Bw.at_end hbel⟩
      · have HE := hid (bytesE_field HW.out (fun h => hz ((low_zero_iff m k).2 h)))
        have hz1 : (0 : Int) < (low m k : Int) := by omega
        clear hz hL0 hL1 HM hlt hk hi hz0 hz2
        go_wp2
        go_returns
        exact ⟨ret_str (bytesV_bad (by rw [HE.out]; decide)).symm HE.out.symm, Bw.at_end hbel⟩

set_option maxHeartbeats 1000000 in
theorem refbytes_any (m : Nat) (hm : (m : Int) < 18446744073709551616) (d : Int) (big : Bool) (w : World) :
    Calls Try.prog 91 #[.int .u64 m, .int .i64 d, .bool big] w fun e w' => e = .returned (.tuple #[.string (bytesV m d big), .int .i64 (bytesE m d)]) ∧ Bw w w' := by
  by_cases hw : widB d = true
  · obtain ⟨k, rfl, hk⟩ := wid_cases hw
    cases big
    · exact refbytes_little m k hm (by omega) (by omega) hw w
    · exact refbytes_big m k hm (by omega) (by omega) hw w
  · have hw1 : widB d = false := by simpa using hw
    have HE := hid (bytesE_bad (m := m) hw1)
    clear hw hm
    go_enter Try.func91, Try.ntmps91
    go_wp2_with (go_at_call 81; refine (width_any _ _).mono ?_; rintro e w' ⟨rfl, rfl⟩)
    go_returns
    exact ⟨ret_str (bytesV_bad (by rw [HE.out]; decide)).symm HE.out.symm, Bw.refl _⟩

end Go.Proofs.Ytciaebhkemdilaa
/- What a window's Uint returns, for every window, place, width and both orders (contracts of the functions; a text has at most 2^48 bytes, a window begins within 0 to 2^48). -/
namespace Go.Proofs.Ytciaebhkemdilaa
open Go.RowKit
set_option linter.unusedVariables false

set_option maxRecDepth 100000 in
set_option maxHeartbeats 1000000 in
theorem uint_big (b : Int) (b0 : 0 ≤ b) (b1 : b ≤ 281474976710656) (s : ByteArray) (hs : s.size ≤ lim) (p d : Nat) (hd1 : 1 ≤ d) (hd2 : d ≤ 8) (hw : widB (d : Int) = true) (hpd : p + d ≤ s.size) (w : World) :
    Calls Try.prog 98 #[.agg #[.int .i64 b, .string s], .int .i64 p, .int .i64 d, .bool true] w fun e w' => e = .returned (.tuple #[.int .u64 (numAt s p d true), .int .i64 0]) ∧ Bw w w' := by
  have hmf : ∀ (fn : Fn) (first cap : Array Value) (w : World), (Instr.makeFunc fn first cap).run Try.prog w = .ok (.func fn first cap) w := fun _ _ _ _ => rfl
  obtain ⟨T, hT0⟩ : ∃ T, s.extract p (p + d) = T := ⟨_, rfl⟩
  have hTs : T.size = d := by rw [← hT0]; simp; omega
  have hT := hid hT0
  have hT1 : T.size ≤ d := by omega
  have hT2 : d ≤ T.size := by omega
  clear hT0 hTs
  have Hs := hid hs
  go_enter Try.func98, Try.ntmps98
  go_wp2_with (go_at_call 101; refine (isWidth_any _ _).mono ?_; rintro e w' ⟨rfl, rfl⟩)
  go_region_with (first | (go_at_call 102; refine (order_big _ _).mono ?_; rintro e w1 ⟨rfl, rfl⟩) | (go_at_call 103; refine (number_big b b0 b1 s Hs.out p d hd1 hd2 hpd T hT hT1 hT2 _ _ ?_ ?_).mono ?_; (simp); (simp); rintro e w2 ⟨rfl, hw2⟩))
  all_goals go_wp2
  all_goals go_returns
  all_goals refine ⟨rfl, Below.trans ?_ (Below.mono hw2 ?_)⟩
  all_goals first | go_grown | (simp; try omega)

end Go.Proofs.Ytciaebhkemdilaa
/- What a window's Uint returns, for every window, place, width and both orders (contracts of the functions; a text has at most 2^48 bytes, a window begins within 0 to 2^48). -/
namespace Go.Proofs.Ytciaebhkemdilaa
open Go.RowKit
set_option linter.unusedVariables false

set_option maxRecDepth 100000 in
set_option maxHeartbeats 1000000 in
theorem uint_little (b : Int) (b0 : 0 ≤ b) (b1 : b ≤ 281474976710656) (s : ByteArray) (hs : s.size ≤ lim) (p d : Nat) (hd1 : 1 ≤ d) (hd2 : d ≤ 8) (hw : widB (d : Int) = true) (hpd : p + d ≤ s.size) (w : World) :
    Calls Try.prog 98 #[.agg #[.int .i64 b, .string s], .int .i64 p, .int .i64 d, .bool false] w fun e w' => e = .returned (.tuple #[.int .u64 (numAt s p d false), .int .i64 0]) ∧ Bw w w' := by
  have hmf : ∀ (fn : Fn) (first cap : Array Value) (w : World), (Instr.makeFunc fn first cap).run Try.prog w = .ok (.func fn first cap) w := fun _ _ _ _ => rfl
  obtain ⟨T, hT0⟩ : ∃ T, s.extract p (p + d) = T := ⟨_, rfl⟩
  have hTs : T.size = d := by rw [← hT0]; simp; omega
  have hT := hid hT0
  have hT1 : T.size ≤ d := by omega
  have hT2 : d ≤ T.size := by omega
  clear hT0 hTs
  have Hs := hid hs
  go_enter Try.func98, Try.ntmps98
  go_wp2_with (go_at_call 101; refine (isWidth_any _ _).mono ?_; rintro e w' ⟨rfl, rfl⟩)
  go_region_with (first | (go_at_call 102; refine (order_little _ _).mono ?_; rintro e w1 ⟨rfl, rfl⟩) | (go_at_call 103; refine (number_little b b0 b1 s Hs.out p d hd1 hd2 hpd T hT hT1 hT2 _).mono ?_; rintro e w2 ⟨rfl, hw2⟩))
  all_goals go_wp2
  all_goals go_returns
  all_goals refine ⟨rfl, Below.trans ?_ (Below.mono hw2 ?_)⟩
  all_goals first | go_grown | (simp; try omega)

end Go.Proofs.Ytciaebhkemdilaa
/- What a window's Uint returns, for every window, place, width and both orders (contracts of the functions; a text has at most 2^48 bytes, a window begins within 0 to 2^48). -/
namespace Go.Proofs.Ytciaebhkemdilaa
open Go.RowKit
set_option linter.unusedVariables false

set_option maxRecDepth 100000 in
set_option maxHeartbeats 2000000 in
theorem uint_bad (b : Int) (b0 : 0 ≤ b) (b1 : b ≤ 281474976710656) (s : ByteArray) (hs : s.size ≤ lim) (a d : Int) (big : Bool) (hw : widB d = true) (hE : (subE s.size a d != 0) = true) (w : World) :
    Calls Try.prog 98 #[.agg #[.int .i64 b, .string s], .int .i64 a, .int .i64 d, .bool big] w fun e w' => e = .returned (.tuple #[.int .u64 0, .int .i64 (subE s.size a d)]) ∧ Bw w w' := by
  have hmf : ∀ (fn : Fn) (first cap : Array Value) (w : World), (Instr.makeFunc fn first cap).run Try.prog w = .ok (.func fn first cap) w := fun _ _ _ _ => rfl
  cases big
  all_goals
    go_enter Try.func98, Try.ntmps98
    go_wp2_with (go_at_call 101; refine (isWidth_any _ _).mono ?_; rintro e w' ⟨rfl, rfl⟩)
    go_region_with (first | (go_at_call 102; (first | (with_reducible refine (order_big _ _).mono ?_) | (with_reducible refine (order_little _ _).mono ?_)); rintro e w1 ⟨rfl, rfl⟩) | (go_at_call 103; refine (number_bad b b0 b1 s hs a d hE _ _).mono ?_; rintro e w2 ⟨rfl, hw2⟩))
    all_goals go_wp2
    all_goals go_returns
    all_goals refine ⟨rfl, Below.trans ?_ (Below.mono hw2 ?_)⟩
    all_goals first | go_grown | (simp; try omega)

end Go.Proofs.Ytciaebhkemdilaa
/- What a window's Uint returns, for every window, place, width and both orders (contracts of the functions; a text has at most 2^48 bytes, a window begins within 0 to 2^48). -/
namespace Go.Proofs.Ytciaebhkemdilaa
open Go.RowKit
set_option linter.unusedVariables false

theorem uint_any (b : Int) (b0 : 0 ≤ b) (b1 : b ≤ 281474976710656) (s : ByteArray) (hs : s.size ≤ lim) (a d : Int) (big : Bool) (w : World) :
    Calls Try.prog 98 #[.agg #[.int .i64 b, .string s], .int .i64 a, .int .i64 d, .bool big] w fun e w' => e = .returned (.tuple #[.int .u64 (uintV s a d big), .int .i64 (uintE s.size a d)]) ∧ Bw w w' := by
  by_cases hw : widB d = true
  · obtain ⟨k, rfl, hk⟩ := wid_cases hw
    have HU := uintE_sub (z := s.size) (a := a) hw
    by_cases hE : subE s.size a k = 0
    · have hE' := HU.trans hE
      have h0 : ¬ (a < 0 ∨ (k : Int) < 0) := fun h => by rw [subE_arg h] at hE; cases hE
      have h1 : ¬ ((s.size : Int) < a ∨ (s.size : Int) - a < k) := fun h => by rw [subE_cut h0 h] at hE; cases hE
      obtain ⟨p, rfl⟩ := Int.eq_ofNat_of_zero_le (show 0 ≤ a by omega)
      have hV := uintV_ok (big := big) hE'
      rw [hE', hV]
      simp only [Int.toNat_natCast]
      cases big
      · exact uint_little b b0 b1 s hs p k (by omega) (by omega) hw (by omega) w
      · exact uint_big b b0 b1 s hs p k (by omega) (by omega) hw (by omega) w
    · have hV := uintV_bad (big := big) (show uintE s.size a k ≠ 0 by rw [HU]; exact hE)
      rw [hV, HU]
      exact uint_bad b b0 b1 s hs a k big hw (by simpa using hE) w
  · have hw1 : widB d = false := by simpa using hw
    have HE := hid (uintE_bad (z := s.size) (a := a) hw1)
    have HV := hid (uintV_bad (s := s) (big := big) (show uintE s.size a d ≠ 0 by rw [HE.out]; decide))
    clear hw
    go_enter Try.func98, Try.ntmps98
    go_wp2_with (go_at_call 101; refine (isWidth_any _ _).mono ?_; rintro e w' ⟨rfl, rfl⟩)
    go_returns
    exact ⟨ret_u HV.out.symm HE.out.symm, by unfold Bw; go_grown⟩

end Go.Proofs.Ytciaebhkemdilaa
