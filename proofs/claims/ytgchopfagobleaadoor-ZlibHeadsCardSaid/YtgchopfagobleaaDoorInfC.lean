/- The number of a row (contract of the method). -/
import Derived.Test.YtgchopfagobleaaDoorInfB
import Derived.Deep.RegionHeld3
import Derived.IntWalk
import Derived.RegionDies
namespace Go.Proofs.YtgchopfagobleaaDoor
open Go.RowKit
set_option linter.unusedVariables false
section
variable {B : Nat} {w : World} {fb g : Nat} {s : ByteArray} {k : Nat} {out : List UInt8} {lim : Nat} {v : Value} {pl pd : Option Addr}
set_option maxHeartbeats 2000000 in
theorem row_ok (hs : s.size ≤ 281474976710656) (least extra : Nat) (hl : least ≤ 30000) (hn : extra ≤ 13) (hk : k + extra ≤ 8 * s.size) (h : Inf B w fb g s k out lim v pl pd) :
    Calls Tryd.prog 75 #[.agg #[.int .i64 least, .int .i64 extra], .pointer (some ⟨fb, 0, none⟩)] w fun e w' => e = .returned (.int .i64 (least + bv s k extra : Nat)) ∧ Inf B w' fb g s (k + extra) out lim v pl pd ∧ KT TI B w w' := by
  have hb : bv s k extra < 8192 := Nat.lt_of_lt_of_le (bv_lt s k extra) (Nat.pow_le_pow_right (by decide) hn : 2 ^ extra ≤ 2 ^ 13)
  have HI := hid h
  have HN := hid (Has.new w 112 #[.int .i64 least, .int .i64 extra])
  have HW := hid (show Bw w (w.alloc (.cells #[.int .i64 least, .int .i64 extra] 112)) from (Bw.refl w).alloc _)
  clear h
  go_enter Tryd.func75, Tryd.ntmps75
  go_wp2_with fail
  generalize w.alloc (.cells #[.int .i64 least, .int .i64 extra] 112) = W at *
  generalize w.heap.size = nb at *
  have HI1 := hid (HI.out.bw (HW.out.drewN 1))
  have p0 : W.drew.cell? ⟨nb, 0, none⟩ = some (.int .i64 least) := HN.out.drew.cell 0
  have p1 : W.drew.cell? ⟨nb, 1, none⟩ = some (.int .i64 extra) := HN.out.drew.cell 1
  have hwr : IntKind.i64.wrap ((least : Int) + (bv s k extra : Nat)) = (least : Int) + (bv s k extra : Nat) := IntWalk.i64_in _ (by omega)
  go_region_held3 (fun w' => w'.cell? ⟨nb, 0, none⟩ = some (.int .i64 least) ∧ w'.cell? ⟨nb, 1, none⟩ = some (.int .i64 extra)) (first | exact ⟨p0, p1⟩ | exact ⟨q0, q1⟩)
    (first | (go_at_call 36; refine (number_ok hs extra (by omega) hk HI1.out).mono ?_; rintro e w2 ⟨rfl, hi2, hk2⟩; have q0 := (hk2.has HN.out.drew (by decide)).cell 0; have q1 := (hk2.has HN.out.drew (by decide)).cell 1; have HI2 := hid hi2; have HK2 := hid hk2; clear hi2 hk2))
  go_wp2
  go_returns
  exact ⟨by simp, HI2.out, (KT.of_bw (HW.out.drewN 1)).trans HK2.out⟩
set_option maxHeartbeats 2000000 in
theorem row_bad (hs : s.size ≤ 281474976710656) (least extra : Nat) (hl : least ≤ 30000) (hn : extra ≤ 13) (hk : ¬ k + extra ≤ 8 * s.size) (h : Inf B w fb g s k out lim v pl pd) :
    Calls Tryd.prog 75 #[.agg #[.int .i64 least, .int .i64 extra], .pointer (some ⟨fb, 0, none⟩)] w fun e w' => e = pan 2 ∧ KT TI B w w' := by
  have HI := hid h
  have HN := hid (Has.new w 112 #[.int .i64 least, .int .i64 extra])
  have HW := hid (show Bw w (w.alloc (.cells #[.int .i64 least, .int .i64 extra] 112)) from (Bw.refl w).alloc _)
  clear h
  go_enter Tryd.func75, Tryd.ntmps75
  go_wp2_with fail
  generalize w.alloc (.cells #[.int .i64 least, .int .i64 extra] 112) = W at *
  generalize w.heap.size = nb at *
  have HI1 := hid (HI.out.bw (HW.out.drewN 1))
  have p0 : W.drew.cell? ⟨nb, 0, none⟩ = some (.int .i64 least) := HN.out.drew.cell 0
  have p1 : W.drew.cell? ⟨nb, 1, none⟩ = some (.int .i64 extra) := HN.out.drew.cell 1
  go_region_dies
  all_goals (refine (number_bad hs extra (by omega) hk HI1.out).mono ?_; rintro e w2 ⟨rfl, hk2⟩; exact ⟨rfl, rfl, (KT.of_bw (HW.out.drewN 1)).trans hk2⟩)
end
end Go.Proofs.YtgchopfagobleaaDoor
