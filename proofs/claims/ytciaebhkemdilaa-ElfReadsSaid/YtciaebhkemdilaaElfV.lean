/- win.Align to 8, place's rounding (contracts of the functions). -/
import Derived.Test.YtciaebhkemdilaaElfO
namespace Go.Proofs.Ytciaebhkemdilaa
open Go.RowKit Go.Conc
set_option linter.unusedVariables false
set_option linter.unusedSimpArgs false
def al8 (n : Nat) : Nat := n + pad8 n
set_option maxHeartbeats 400000 in
theorem off_ok (n : Nat) (hn : n ≤ 1000000000) (w : World) : Calls Try.prog 88 #[.int .i64 n] w fun e w' => e = .returned (.bool true) ∧ w' = w := by
  have h0 : (0 : Int) ≤ n := by omega
  have h1 : (n : Int) ≤ 4611686018427387904 := by omega
  go_enter Try.func88, Try.ntmps88
  go_wp2
  go_returns
  exact ⟨rfl, rfl⟩
set_option maxHeartbeats 1000000 in
theorem add_ok (n m : Nat) (hn : n ≤ 1000000000) (hm : m ≤ 8) (w : World) : Calls Try.prog 89 #[.int .i64 n, .int .i64 m] w fun e w' => e = .returned (.tuple #[.int .i64 (n + m : Nat), .bool true]) ∧ w' = w := by
  have h1 : ¬ ((4611686018427387904 : Int) - n < m) := by omega
  have v1 : IntKind.i64.wrap ((4611686018427387904 : Int) - n) = (4611686018427387904 : Int) - n := IntWalk.i64_in _ (by omega)
  have v2 : IntKind.i64.wrap ((n : Int) + m) = ((n + m : Nat) : Int) := by rw [IntWalk.i64_in _ (by omega)]; omega
  obtain ⟨z, hz⟩ : ∃ z, n + m = z := ⟨_, rfl⟩
  rw [hz] at v2 ⊢
  clear hz
  go_enter Try.func89, Try.ntmps89
  go_wp2_with fail
  refine (off_ok n hn _).mono ?_
  rintro e w2 ⟨rfl, rfl⟩
  go_wp2_with fail
  refine (off_ok m (by omega) _).mono ?_
  rintro e w3 ⟨rfl, rfl⟩
  go_wp2
  go_returns
  exact ⟨rfl, rfl⟩
set_option maxHeartbeats 1000000 in
theorem win_align (n : Nat) (hn : n ≤ 900000000) (w : World) : Calls Try.prog 63 #[.int .i64 n, .int .i64 8] w fun e w' => e = .returned (.tuple #[.int .i64 (al8 n : Nat), .bool true]) ∧ w' = w := by
  have hm8 : n % 8 < 8 := Nat.mod_lt _ (by decide)
  by_cases h : n % 8 = 0
  · have he : al8 n = n := by unfold al8 pad8; omega
    have v1 : (n : Int).tmod 8 = 0 := by rw [Int.tmod_eq_emod_of_nonneg (by omega)]; omega
    have v2 : (n : Int) % 8 = 0 := by omega
    rw [he]
    clear h he hm8
    go_enter Try.func63, Try.ntmps63
    go_wp2_with fail
    refine (off_ok n (by omega) _).mono ?_
    rintro e w2 ⟨rfl, rfl⟩
    go_wp2
    go_returns
    exact ⟨rfl, rfl⟩
  · have he : al8 n = n + (8 - n % 8) := by unfold al8 pad8; omega
    obtain ⟨r, hr⟩ : ∃ r, n % 8 = r := ⟨_, rfl⟩
    rw [he]
    rw [hr] at h hm8 ⊢
    have v1 : (n : Int).tmod 8 = r := by rw [Int.tmod_eq_emod_of_nonneg (by omega)]; omega
    have v2 : (n : Int) % 8 = r := by omega
    have t0 : ((r : Int) == 0) = false := beq_eq_false_iff_ne.2 (by omega)
    obtain ⟨d, hd⟩ : ∃ d, 8 - r = d := ⟨_, rfl⟩
    have v3 : IntKind.i64.wrap (8 - (r : Int)) = (d : Int) := by rw [IntWalk.i64_in _ (by omega)]; omega
    have hd8 : d ≤ 8 := by omega
    rw [hd]
    clear h he hr hd hm8
    go_enter Try.func63, Try.ntmps63
    go_wp2_with fail
    refine (off_ok n (by omega) _).mono ?_
    rintro e w2 ⟨rfl, rfl⟩
    go_wp2_with fail
    refine (add_ok n d (by omega) hd8 _).mono ?_
    rintro e w3 ⟨rfl, rfl⟩
    go_wp2
    go_returns
    exact ⟨rfl, rfl⟩
set_option maxHeartbeats 1000000 in
theorem aligned_any (n : Nat) (hn : n ≤ 900000000) (w : World) : Calls Try.prog 62 #[.int .i64 n] w fun e w' => e = .returned (.int .i64 (al8 n : Nat)) ∧ w' = w := by
  have HA := hid (win_align n hn w)
  generalize al8 n = z at *
  go_enter Try.func62, Try.ntmps62
  go_wp2_with fail
  refine HA.out.mono ?_
  rintro e w2 ⟨rfl, rfl⟩
  go_wp2
  go_returns
  exact ⟨rfl, rfl⟩
end Go.Proofs.Ytciaebhkemdilaa
