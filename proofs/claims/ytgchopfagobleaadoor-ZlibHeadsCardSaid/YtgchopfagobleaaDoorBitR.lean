/- What Align returns, and what it leaves (contract of the function). -/
import Derived.Test.YtgchopfagobleaaDoorBitP
import Derived.Test.YtgchopfagobleaaDoorBitR0
namespace Go.Proofs.YtgchopfagobleaaDoor
open Go.RowKit
set_option linter.unusedVariables false
theorem miss_add (k : Nat) : k + miss k = (k + 7) / 8 * 8 := by unfold miss; omega
/-- The next whole byte. -/
def upK (k : Nat) : Nat := (k + 7) / 8 * 8
theorem upK_le (k n : Nat) (h : k ≤ 8 * n) : upK k ≤ 8 * n := by unfold upK; omega
theorem upK_8 (k : Nat) : upK k = 8 * (upK k / 8) := by unfold upK; omega
set_option maxHeartbeats 400000 in
theorem ralign_nil (w : World) :
    Calls Tryd.prog 53 #[.pointer none] w fun e w' => e = .returned (.tuple #[]) ∧ w = w' := by
  go_enter Tryd.func53, Tryd.ntmps53
  go_wp2
  go_returns
  exact ⟨rfl, rfl⟩
set_option maxRecDepth 100000 in
set_option maxHeartbeats 1000000 in
theorem ralign_any (g : Nat) (s : ByteArray) (hs : s.size ≤ 281474976710656) (k : Nat) (hk : k ≤ 8 * s.size) (w : World) (h : Rd w g s k) :
    Calls Tryd.prog 53 #[.pointer (some ⟨g, 0, none⟩)] w fun e w' => e = .returned (.tuple #[]) ∧ Rd w' g s (upK k) ∧ Keeps (· = g) w w' := by
  have hc0 : w.cell? ⟨g, 0, none⟩ = some (.int .i64 k) := h.cell 0
  have HH := hid h
  clear h
  go_enter Tryd.func53, Tryd.ntmps53
  go_wp2_with fail
  refine wp_region_still_tail 7 (by kernel_rfl) (by kernel_rfl) ?_
  simp only [List.take_succ_cons, List.take_zero, List.drop_succ_cons, List.drop_zero]
  repeat still_step
  still_call (quiet_flip (missing_any g k (by omega) _ (by simpa using hc0)))
  refine wpStill_nil ?_
  change wpList _ _ _ _ _ w.drew
  have h1 : Rd w.drew g s k := HH.out.drew
  have hK : Keeps (· = g) w w.drew := (Keeps.refl (· = g) w).drewN 1
  have hm := miss_lt k
  have HU := hid (miss_add k)
  generalize w.drew = w1 at *
  have H1 := hid h1
  clear h1 hc0
  go_wp2_with fail
  refine (lift_advance g k (miss k) (by omega) s _ H1.out).mono ?_
  rintro e w' ⟨rfl, h2, hK2⟩
  go_wp2
  go_returns
  exact ⟨rfl, by unfold upK; rw [← HU.out]; exact h2, hK.trans hK2⟩
theorem whole_q (g k q : Nat) (hk : k ≤ 1152921504606846976) (hq : Hid (k / 8 = q)) (w : World) (hc : w.cell? ⟨g, 0, none⟩ = some (.int .i64 k)) :
    Calls Tryd.prog 70 #[.pointer (some ⟨g, 0, none⟩)] w fun e w' => e = .returned (.int .i64 (q : Nat)) ∧ w' = w := by
  have := whole_any g k hk w hc
  rw [hq.out] at this
  exact quiet_flip this
theorem begun_q (g k q : Nat) (hk : k ≤ 1152921504606846976) (hq : Hid (k % 8 = q)) (w : World) (hc : w.cell? ⟨g, 0, none⟩ = some (.int .i64 k)) :
    Calls Tryd.prog 69 #[.pointer (some ⟨g, 0, none⟩)] w fun e w' => e = .returned (.int .i64 (q : Nat)) ∧ w' = w := by
  have := begun_any g k hk w hc
  rw [hq.out] at this
  exact quiet_flip this
end Go.Proofs.YtgchopfagobleaaDoor
