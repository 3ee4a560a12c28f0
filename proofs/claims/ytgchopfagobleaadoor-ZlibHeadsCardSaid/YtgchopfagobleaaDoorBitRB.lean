/- What Bytes of bits's reader returns, and what it leaves (contracts of the function). -/
import Derived.Test.YtgchopfagobleaaDoorBitR
namespace Go.Proofs.YtgchopfagobleaaDoor
open Go.RowKit
set_option linter.unusedVariables false
/-- What Bytes tells, and where the reader stands behind it. -/
def bytesOk (s : ByteArray) (k : Nat) (n : Int) : Bool := decide (0 ≤ n) && decide (n ≤ (s.size : Int) - (upK k / 8 : Nat))
def rbytesV (s : ByteArray) (k : Nat) (n : Int) : ByteArray := if bytesOk s k n then s.extract (upK k / 8) (upK k / 8 + n.toNat) else ⟨#[]⟩
def rbytesE (s : ByteArray) (k : Nat) (n : Int) : Int := if n < 0 then 1 else if n ≤ (s.size : Int) - (upK k / 8 : Nat) then 0 else 2
def rbytesK (s : ByteArray) (k : Nat) (n : Int) : Nat := if n < 0 then k else if n ≤ (s.size : Int) - (upK k / 8 : Nat) then upK k + 8 * n.toNat else upK k
set_option maxHeartbeats 400000 in
theorem rbytes_nil (n : Int) (w : World) :
    Calls Tryd.prog 73 #[.pointer none, .int .i64 n] w fun e w' => e = .returned (.tuple #[.string ⟨#[]⟩, .int .i64 1]) ∧ w = w' := by
  go_enter Tryd.func73, Tryd.ntmps73
  go_wp2
  go_returns
  exact ⟨rfl, rfl⟩
set_option maxHeartbeats 400000 in
theorem rbytes_bad (g : Nat) (n : Int) (hn : n < 0) (w : World) :
    Calls Tryd.prog 73 #[.pointer (some ⟨g, 0, none⟩), .int .i64 n] w fun e w' => e = .returned (.tuple #[.string ⟨#[]⟩, .int .i64 1]) ∧ w = w' := by
  go_enter Tryd.func73, Tryd.ntmps73
  go_wp2
  go_returns
  exact ⟨rfl, rfl⟩
set_option maxRecDepth 100000 in
set_option maxHeartbeats 1000000 in
theorem rbytes_ok (g : Nat) (s : ByteArray) (hs : s.size ≤ 281474976710656) (k : Nat) (hk : k ≤ 8 * s.size) (q : Nat) (hq : Hid (upK k / 8 = q)) (n : Nat) (hn : q + n ≤ s.size) (w : World) (h : Rd w g s k) :
    Calls Tryd.prog 73 #[.pointer (some ⟨g, 0, none⟩), .int .i64 n] w fun e w' => e = .returned (.tuple #[.string (s.extract q (q + n)), .int .i64 0]) ∧ Rd w' g s (upK k + 8 * n) ∧ Keeps (· = g) w w' := by
  have HH := hid h
  clear h
  have hu := upK_le k s.size hk
  go_enter Tryd.func73, Tryd.ntmps73
  go_wp2_with fail
  refine (ralign_any g s hs k hk _ HH.out).mono ?_
  rintro e w1 ⟨rfl, h1, hK⟩
  have d0 : w1.cell? ⟨g, 0, none⟩ = some (.int .i64 (upK k)) := h1.cell 0
  have d1 : w1.cell? ⟨g, 1, none⟩ = some (.string s) := h1.cell 1
  have hq1 : q ≤ s.size := by omega
  have hq2 : upK k = 8 * q := by have := upK_8 k; rw [hq.out] at this; exact this
  have HQ := hid hq2
  have H1 := hid h1
  clear hq2 h1
  have hu2 : upK k + 8 * n ≤ 1152921504606846976 := by have := HQ.out; omega
  have hu3 : upK k ≤ 1152921504606846976 := by omega
  go_wp2_with fail
  go_quiet ((go_at_call 70; exact Calls.quiet_of_same (whole_q g _ q hu3 hq _ (by simpa using d0))))
  go_wp2_with fail
  have hla := lift_advance g (upK k) (8 * n) hu2 s (w1.drewN nq) (H1.out.drewN nq)
  rw [show ((8 * n : Nat) : Int) = 8 * (n : Int) by omega] at hla
  refine hla.mono ?_
  rintro e w2 ⟨rfl, h2, hK2⟩
  have hx : (s.extract q s.size).size = s.size - q := by simp
  have HX := hid hx
  have i1 : (n : Int) ≤ ((s.extract q s.size).size : Int) := by rw [hx]; omega
  clear hx
  go_wp2
  go_returns
  refine ⟨?_, h2, (hK.drewN nq).trans hK2⟩
  rw [ByteArray.extract_extract, Nat.add_zero, Nat.min_eq_left (by omega)]
  rfl
set_option maxRecDepth 100000 in
set_option maxHeartbeats 1000000 in
theorem rbytes_few (g : Nat) (s : ByteArray) (hs : s.size ≤ 281474976710656) (k : Nat) (hk : k ≤ 8 * s.size) (q : Nat) (hq : Hid (upK k / 8 = q)) (n : Int) (hn0 : 0 ≤ n) (hn : (s.size : Int) - q < n) (w : World) (h : Rd w g s k) :
    Calls Tryd.prog 73 #[.pointer (some ⟨g, 0, none⟩), .int .i64 n] w fun e w' => e = .returned (.tuple #[.string ⟨#[]⟩, .int .i64 2]) ∧ Rd w' g s (upK k) ∧ Keeps (· = g) w w' := by
  have HH := hid h
  clear h
  have hu := upK_le k s.size hk
  go_enter Tryd.func73, Tryd.ntmps73
  go_wp2_with fail
  refine (ralign_any g s hs k hk _ HH.out).mono ?_
  rintro e w1 ⟨rfl, h1, hK⟩
  have d0 : w1.cell? ⟨g, 0, none⟩ = some (.int .i64 (upK k)) := h1.cell 0
  have d1 : w1.cell? ⟨g, 1, none⟩ = some (.string s) := h1.cell 1
  have hq2 : upK k = 8 * q := by have := upK_8 k; rw [hq.out] at this; exact this
  have hq1 : q ≤ s.size := by omega
  have HQ := hid hq2
  have H1 := hid h1
  clear hq2 h1
  have hu3 : upK k ≤ 1152921504606846976 := by omega
  go_wp2_with fail
  go_quiet ((go_at_call 70; exact Calls.quiet_of_same (whole_q g _ q hu3 hq _ (by simpa using d0))))
  have hx : (s.extract q s.size).size = s.size - q := by simp
  have i1 : ((s.extract q s.size).size : Int) < n := by rw [hx]; omega
  clear hx
  go_wp2
  go_returns
  exact ⟨rfl, H1.out.drewN nq, hK.drewN nq⟩
def RBytesPost (g : Nat) (s : ByteArray) (k : Nat) (n : Int) (w : World) (e : Ending) (w' : World) : Prop :=
  e = .returned (.tuple #[.string (rbytesV s k n), .int .i64 (rbytesE s k n)]) ∧ Rd w' g s (rbytesK s k n) ∧ Keeps (· = g) w w'
theorem rbytes_neg {n : Int} (h : n < 0) (s : ByteArray) (k : Nat) : rbytesV s k n = ⟨#[]⟩ ∧ rbytesE s k n = 1 ∧ rbytesK s k n = k := by
  simp [rbytesV, rbytesE, rbytesK, bytesOk, h, show ¬ 0 ≤ n by omega]
theorem rbytes_short {n : Int} (h : 0 ≤ n) (s : ByteArray) (k q : Nat) (hq : upK k / 8 = q) (hn : (s.size : Int) - q < n) : rbytesV s k n = ⟨#[]⟩ ∧ rbytesE s k n = 2 ∧ rbytesK s k n = upK k := by
  unfold rbytesV rbytesE rbytesK bytesOk
  rw [hq]
  simp [show ¬ n < 0 by omega, show ¬ n ≤ (s.size : Int) - q by omega]
theorem rbytes_good (n : Nat) (s : ByteArray) (k q : Nat) (hq : upK k / 8 = q) (hn : q + n ≤ s.size) : rbytesV s k n = s.extract q (q + n) ∧ rbytesE s k n = 0 ∧ rbytesK s k n = upK k + 8 * n := by
  unfold rbytesV rbytesE rbytesK bytesOk
  rw [hq]
  simp [show (n : Int) ≤ (s.size : Int) - q by omega, show ¬ (n : Int) < 0 by omega]
theorem rbytesK_le (s : ByteArray) (k : Nat) (n : Int) (h : k ≤ 8 * s.size) : rbytesK s k n ≤ 8 * s.size := by
  have h1 := upK_le k s.size h
  have h2 := upK_8 k
  unfold rbytesK
  split
  · exact h
  · split <;> omega
theorem rbytes_any (g : Nat) (s : ByteArray) (hs : s.size ≤ 281474976710656) (k : Nat) (hk : k ≤ 8 * s.size) (n : Int) (w : World) (h : Rd w g s k) :
    Calls Tryd.prog 73 #[.pointer (some ⟨g, 0, none⟩), .int .i64 n] w (RBytesPost g s k n w) := by
  unfold RBytesPost
  by_cases hn : n < 0
  · obtain ⟨e1, e2, e3⟩ := rbytes_neg hn s k
    rw [e1, e2, e3]
    refine (rbytes_bad g n hn w).mono ?_
    rintro e w' ⟨rfl, rfl⟩
    exact ⟨rfl, h, Keeps.refl _ _⟩
  · obtain ⟨q, hq⟩ : ∃ q, upK k / 8 = q := ⟨_, rfl⟩
    by_cases hl : (s.size : Int) - q < n
    · obtain ⟨e1, e2, e3⟩ := rbytes_short (by omega) s k q hq hl
      rw [e1, e2, e3]
      exact rbytes_few g s hs k hk q hq n (by omega) hl w h
    · obtain ⟨m, rfl⟩ := Int.eq_ofNat_of_zero_le (show 0 ≤ n by omega)
      have hq3 : q + m ≤ s.size := by omega
      obtain ⟨e1, e2, e3⟩ := rbytes_good m s k q hq hq3
      rw [e1, e2, e3]
      exact rbytes_ok g s hs k hk q hq m hq3 w h
end Go.Proofs.YtgchopfagobleaaDoor
