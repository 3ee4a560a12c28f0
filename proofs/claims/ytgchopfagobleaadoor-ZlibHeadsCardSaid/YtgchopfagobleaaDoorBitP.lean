/- What missing returns (contract of the function). -/
import Derived.Test.YtgchopfagobleaaDoorBitP0
namespace Go.Proofs.YtgchopfagobleaaDoor
open Go.RowKit
set_option linter.unusedVariables false
/-- How many bits are missing up to the next whole byte. -/
def miss (k : Nat) : Nat := (8 - k % 8) % 8
theorem miss_lt (k : Nat) : miss k < 8 := Nat.mod_lt _ (by decide)
set_option maxHeartbeats 400000 in
theorem missing_any (g k : Nat) (hk : k ≤ 1152921504606846976) (w : World) (hc : w.cell? ⟨g, 0, none⟩ = some (.int .i64 k)) :
    Calls Tryd.prog 72 #[.pointer (some ⟨g, 0, none⟩)] w fun e w' => e = .returned (.int .i64 (miss k : Nat)) ∧ w = w' := by
  have h8 : k % 8 < 8 := Nat.mod_lt _ (by decide)
  obtain ⟨r, hr⟩ : ∃ r, k % 8 = r := ⟨_, rfl⟩
  have hb := begun_any g k hk w hc
  rw [hr] at hb h8
  have HR := hid hr
  have HB := hid hb
  clear hr hb
  go_enter Tryd.func72, Tryd.ntmps72
  go_wp2_with fail
  refine HB.out.mono ?_
  rintro e w' ⟨rfl, rfl⟩
  go_wp2
  go_ret
  exact ⟨ret_int (by unfold miss; rw [HR.out]; omega), rfl⟩
end Go.Proofs.YtgchopfagobleaaDoor
