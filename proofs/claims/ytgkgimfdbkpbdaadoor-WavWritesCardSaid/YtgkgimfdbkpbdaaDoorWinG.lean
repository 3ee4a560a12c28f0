/- What the document's Bytes returns, for every number below 2^64, every width and both orders (contracts of the functions). -/
import Derived.Test.YtgkgimfdbkpbdaaDoorWinF
namespace Go.Proofs.YtgkgimfdbkpbdaaDoor
open Go.RowKit
set_option linter.unusedVariables false
theorem low_wrap (m k : Nat) (hm : (m : Int) < 18446744073709551616) : IntKind.u64.wrap ((low m k : Int) / 256) = (low m (k + 1) : Int) := by
  have h0 := low_le m k
  have h1 : (0 : Int) ≤ (low m k : Int) := Int.natCast_nonneg _
  rw [IntKind.wrap_u64, low_succ]
  omega
theorem u64_eq {a b : Int} (h : a = b) : Value.int .u64 a = .int .u64 b := by rw [h]

set_option maxRecDepth 100000 in
set_option maxHeartbeats 1000000 in
theorem refbytes_little (m d : Nat) (hm : (m : Int) < 18446744073709551616) (hd : 1 ≤ d) (hd8 : d ≤ 8) (hw : widB (d : Int) = true) (w : World) :
    Calls Tryd.prog 34 #[.int .u64 m, .int .i64 d, .bool false] w fun e w' => e = .returned (.tuple #[.string (bytesV m d false), .int .i64 (bytesE m d)]) ∧ Bw w w' := by
  obtain ⟨i0, hi, hz0, hz1, hz2⟩ := info_parts u8info
  have hmk := fun (w : World) => run_make (P := Tryd.prog) w 55 5 i0 (.int .u8 0) Tryd.underlying55 hi hz0 .i64 .i64 (d : Int) (d : Int) (by omega) (by omega) (by rw [hz2]; omega) (by omega)
  have HW := hid hw
  have HM := hid hm
  clear hm
  go_enter Tryd.func34, Tryd.ntmps34
  go_wp2_with (go_at_call 51; refine (width_any _ _).mono ?_; rintro e w' ⟨rfl, rfl⟩)
  clear hmk
  go_loopw [0, 9] (fun n i wr => ∃ k : Nat, k ≤ d ∧ n = .int .u64 (low m k) ∧ i = .int .i64 k ∧ Has wr w.heap.size 5 (upto m d false k) ∧ Below w.heap.size w wr)
    (fun _ i _ => d - (intOf i).toNat)
  case atStart =>
    refine ⟨0, Nat.zero_le _, by rw [low_zero], rfl, ?_, (Below.refl _ _).alloc (Nat.le_refl _) _⟩
    rw [← upto_zero]
    exact Has.new w _ _
  case round =>
    obtain ⟨k, hk, rfl, rfl, hB, hbel⟩ := hrel
    have hL0 : (0 : Int) ≤ (low m k : Int) := Int.natCast_nonneg _
    have hL1 : (low m k : Int) ≤ (m : Int) := by have := low_le m k; omega
    by_cases hlt : k < d
    · have hcB := hB.cell (k)
      rw [upto_get m d false k hlt] at hcB
      have hfB := hB.frozen (k)
      go_wp2
      all_goals go_roundw
      case rel =>
        refine ⟨k + 1, by omega, u64_eq (low_wrap m k HM.out), by go_num, ?_, hbel.setCell (by simp) _⟩
        have h1 := hB.put (k) (.int .u8 (byteAt m d false (k)))
        rw [upto_set, ← low_little m d k] at h1
        exact h1
      case measure => simp [intOf]; omega
    · obtain rfl : k = d := by omega
      by_cases hz : low m k = 0
      · have HE := hid (bytesE_ok HW.out ((low_zero_iff m k).1 hz))
        rw [upto_full m k false] at hB
        have hz1 : (low m k : Int) ≤ 0 := by omega
        clear hz hL0 hL1 HM hlt hk hi hz0 hz2
        have hcv := conv_fill (P := Tryd.prog) wr 55 9 5 Tryd.underlying55 Tryd.underlying5 Tryd.underlying9 (c := k) hB (fun j _ => byteAt_bd m k false j)
        go_wp2
        go_returns
        exact ⟨ret_str (bytesV_ok HE.out).symm HE.out.symm, Bw.at_end hbel⟩
      · have HE := hid (bytesE_field HW.out (fun h => hz ((low_zero_iff m k).2 h)))
        have hz1 : (0 : Int) < (low m k : Int) := by omega
        clear hz hL0 hL1 HM hlt hk hi hz0 hz2
        go_wp2
        go_returns
        exact ⟨ret_str (bytesV_bad (by rw [HE.out]; decide)).symm HE.out.symm, Bw.at_end hbel⟩

set_option maxRecDepth 100000 in
set_option maxHeartbeats 1000000 in
theorem refbytes_big (m d : Nat) (hm : (m : Int) < 18446744073709551616) (hd : 1 ≤ d) (hd8 : d ≤ 8) (hw : widB (d : Int) = true) (w : World) :
    Calls Tryd.prog 34 #[.int .u64 m, .int .i64 d, .bool true] w fun e w' => e = .returned (.tuple #[.string (bytesV m d true), .int .i64 (bytesE m d)]) ∧ Bw w w' := by
  obtain ⟨i0, hi, hz0, hz1, hz2⟩ := info_parts u8info
  have hmk := fun (w : World) => run_make (P := Tryd.prog) w 55 5 i0 (.int .u8 0) Tryd.underlying55 hi hz0 .i64 .i64 (d : Int) (d : Int) (by omega) (by omega) (by rw [hz2]; omega) (by omega)
  have HW := hid hw
  have HM := hid hm
  clear hm
  go_enter Tryd.func34, Tryd.ntmps34
  go_wp2_with (go_at_call 51; refine (width_any _ _).mono ?_; rintro e w' ⟨rfl, rfl⟩)
  clear hmk
  go_loopw [0, 9] (fun n i wr => ∃ k : Nat, k ≤ d ∧ n = .int .u64 (low m k) ∧ i = .int .i64 k ∧ Has wr w.heap.size 5 (downto m d k) ∧ Below w.heap.size w wr)
    (fun _ i _ => d - (intOf i).toNat)
  case atStart =>
    refine ⟨0, Nat.zero_le _, by rw [low_zero], rfl, ?_, (Below.refl _ _).alloc (Nat.le_refl _) _⟩
    rw [← downto_zero]
    exact Has.new w _ _
  case round =>
    obtain ⟨k, hk, rfl, rfl, hB, hbel⟩ := hrel
    have hL0 : (0 : Int) ≤ (low m k : Int) := Int.natCast_nonneg _
    have hL1 : (low m k : Int) ≤ (m : Int) := by have := low_le m k; omega
    by_cases hlt : k < d
    · have hcB := hB.cell (d - 1 - k)
      rw [downto_get m d k hlt] at hcB
      have hfB := hB.frozen (d - 1 - k)
      go_wp2
      all_goals go_roundw
      case rel =>
        refine ⟨k + 1, by omega, u64_eq (low_wrap m k HM.out), by go_num, ?_, hbel.setCell (by simp) _⟩
        have h1 := hB.put (d - 1 - k) (.int .u8 (byteAt m d true (d - 1 - k)))
        rw [downto_set m d k hlt, ← low_big m d k hlt] at h1
        exact h1
      case measure => simp [intOf]; omega
    · obtain rfl : k = d := by omega
      by_cases hz : low m k = 0
      · have HE := hid (bytesE_ok HW.out ((low_zero_iff m k).1 hz))
        rw [downto_full m k] at hB
        have hz1 : (low m k : Int) ≤ 0 := by omega
        clear hz hL0 hL1 HM hlt hk hi hz0 hz2
        have hcv := conv_fill (P := Tryd.prog) wr 55 9 5 Tryd.underlying55 Tryd.underlying5 Tryd.underlying9 (c := k) hB (fun j _ => byteAt_bd m k true j)
        go_wp2
        go_returns
        exact ⟨ret_str (bytesV_ok HE.out).symm HE.out.symm, Bw.at_end hbel⟩
      · have HE := hid (bytesE_field HW.out (fun h => hz ((low_zero_iff m k).2 h)))
        have hz1 : (0 : Int) < (low m k : Int) := by omega
        clear hz hL0 hL1 HM hlt hk hi hz0 hz2
        go_wp2
        go_returns
        exact ⟨ret_str (bytesV_bad (by rw [HE.out]; decide)).symm HE.out.symm, Bw.at_end hbel⟩

set_option maxHeartbeats 1000000 in
theorem refbytes_any (m : Nat) (hm : (m : Int) < 18446744073709551616) (d : Int) (big : Bool) (w : World) :
    Calls Tryd.prog 34 #[.int .u64 m, .int .i64 d, .bool big] w fun e w' => e = .returned (.tuple #[.string (bytesV m d big), .int .i64 (bytesE m d)]) ∧ Bw w w' := by
  by_cases hw : widB d = true
  · obtain ⟨k, rfl, hk⟩ := wid_cases hw
    cases big
    · exact refbytes_little m k hm (by omega) (by omega) hw w
    · exact refbytes_big m k hm (by omega) (by omega) hw w
  · have hw1 : widB d = false := by simpa using hw
    have HE := hid (bytesE_bad (m := m) hw1)
    clear hw hm
    go_enter Tryd.func34, Tryd.ntmps34
    go_wp2_with (go_at_call 51; refine (width_any _ _).mono ?_; rintro e w' ⟨rfl, rfl⟩)
    go_returns
    exact ⟨ret_str (bytesV_bad (by rw [HE.out]; decide)).symm HE.out.symm, Bw.refl _⟩

end Go.Proofs.YtgkgimfdbkpbdaaDoor
