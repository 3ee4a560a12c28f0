/- The document's header of a segment (contract of the function). -/
import Derived.Test.YtciaebhkemdilaaElfQa
import Derived.Test.YtciaebhkemdilaaElfO
namespace Go.Proofs.Ytciaebhkemdilaa
open Go.RowKit Go.Conc Go.BigFrame
set_option linter.unusedVariables false
set_option linter.unusedSimpArgs false
set_option maxRecDepth 100000 in
set_option maxHeartbeats 4000000 in
theorem dsegment_any (t f of va pa fz ms al : Nat) (ht : t < 4294967296) (hf : f < 4294967296) (hof : of < 9223372036854775808) (hva : va < 18446744073709551616) (hpa : pa < 18446744073709551616) (hfz : fz < 9223372036854775808) (hms : ms < 18446744073709551616) (hal : al < 18446744073709551616) (w : World) :
    Calls Try.prog 37 #[.agg #[.int .i64 (t : Nat), .int .i64 (f : Nat), .int .i64 (of : Nat), .int .u64 (va : Nat), .int .u64 (pa : Nat), .int .i64 (fz : Nat), .int .u64 (ms : Nat), .int .u64 (al : Nat)]] w fun e w' => e = .returned (.string (segT t f of va pa fz ms al)) ∧ Bw w w' := by
  have HX := hid (Has.new w 61 #[.int .i64 (t : Nat), .int .i64 (f : Nat), .int .i64 (of : Nat), .int .u64 (va : Nat), .int .u64 (pa : Nat), .int .i64 (fz : Nat), .int .u64 (ms : Nat), .int .u64 (al : Nat)])
  have HB := hid ((Bw.refl w).alloc (.cells #[.int .i64 (t : Nat), .int .i64 (f : Nat), .int .i64 (of : Nat), .int .u64 (va : Nat), .int .u64 (pa : Nat), .int .i64 (fz : Nat), .int .u64 (ms : Nat), .int .u64 (al : Nat)] 61))
  obtain ⟨xb, hxb⟩ : ∃ xb, w.heap.size = xb := ⟨_, rfl⟩
  rw [hxb] at HX
  have v0 : IntKind.u64.wrap (t : Int) = t := IntWalk.u64_in _ (by omega)
  have v1 : IntKind.u64.wrap (f : Int) = f := IntWalk.u64_in _ (by omega)
  have v2 : IntKind.u64.wrap (of : Int) = of := IntWalk.u64_in _ (by omega)
  have v3 : IntKind.u64.wrap (fz : Int) = fz := IntWalk.u64_in _ (by omega)
  have B0 := hid (fun W => d4_any t (by omega) W)
  obtain ⟨s0, e0⟩ : ∃ s, bytesS t 4 false = s := ⟨_, rfl⟩
  have z0 : s0.size = 4 := by rw [← e0]; exact bytesS_size _ _ _
  rw [e0] at B0
  have B1 := hid (fun W => d4_any f (by omega) W)
  obtain ⟨s1, e1⟩ : ∃ s, bytesS f 4 false = s := ⟨_, rfl⟩
  have z1 : s1.size = 4 := by rw [← e1]; exact bytesS_size _ _ _
  rw [e1] at B1
  have B2 := hid (fun W => d8_any of (by omega) W)
  obtain ⟨s2, e2⟩ : ∃ s, bytesS of 8 false = s := ⟨_, rfl⟩
  have z2 : s2.size = 8 := by rw [← e2]; exact bytesS_size _ _ _
  rw [e2] at B2
  have B3 := hid (fun W => d8_any va (by omega) W)
  obtain ⟨s3, e3⟩ : ∃ s, bytesS va 8 false = s := ⟨_, rfl⟩
  have z3 : s3.size = 8 := by rw [← e3]; exact bytesS_size _ _ _
  rw [e3] at B3
  have B4 := hid (fun W => d8_any pa (by omega) W)
  obtain ⟨s4, e4⟩ : ∃ s, bytesS pa 8 false = s := ⟨_, rfl⟩
  have z4 : s4.size = 8 := by rw [← e4]; exact bytesS_size _ _ _
  rw [e4] at B4
  have B5 := hid (fun W => d8_any fz (by omega) W)
  obtain ⟨s5, e5⟩ : ∃ s, bytesS fz 8 false = s := ⟨_, rfl⟩
  have z5 : s5.size = 8 := by rw [← e5]; exact bytesS_size _ _ _
  rw [e5] at B5
  have B6 := hid (fun W => d8_any ms (by omega) W)
  obtain ⟨s6, e6⟩ : ∃ s, bytesS ms 8 false = s := ⟨_, rfl⟩
  have z6 : s6.size = 8 := by rw [← e6]; exact bytesS_size _ _ _
  rw [e6] at B6
  have B7 := hid (fun W => d8_any al (by omega) W)
  obtain ⟨s7, e7⟩ : ∃ s, bytesS al 8 false = s := ⟨_, rfl⟩
  have z7 : s7.size = 8 := by rw [← e7]; exact bytesS_size _ _ _
  rw [e7] at B7
  have HE := hid (show segT t f of va pa fz ms al = s0 ++ s1 ++ s2 ++ s3 ++ s4 ++ s5 ++ s6 ++ s7 by
    unfold segT
    simp only [numsT, app_nil, e0, e1, e2, e3, e4, e5, e6, e7, app_as])
  rw [HE.out]
  clear HE e0 e1 e2 e3 e4 e5 e6 e7
  go_enter Try.func37, Try.ntmps37
  go_upto_region 1 with fail
  generalize w.alloc (.cells #[.int .i64 (t : Nat), .int .i64 (f : Nat), .int .i64 (of : Nat), .int .u64 (va : Nat), .int .u64 (pa : Nat), .int .i64 (fz : Nat), .int .u64 (ms : Nat), .int .u64 (al : Nat)] 61) = w1 at *
  have c0 : ∀ r : Later w1, r.out.cell? ⟨xb, 0, none⟩ = some (.int .i64 (t : Nat)) := HX.out.later 0 _ rfl
  have c1 : ∀ r : Later w1, r.out.cell? ⟨xb, 1, none⟩ = some (.int .i64 (f : Nat)) := HX.out.later 1 _ rfl
  have c2 : ∀ r : Later w1, r.out.cell? ⟨xb, 2, none⟩ = some (.int .i64 (of : Nat)) := HX.out.later 2 _ rfl
  have c3 : ∀ r : Later w1, r.out.cell? ⟨xb, 3, none⟩ = some (.int .u64 (va : Nat)) := HX.out.later 3 _ rfl
  have c4 : ∀ r : Later w1, r.out.cell? ⟨xb, 4, none⟩ = some (.int .u64 (pa : Nat)) := HX.out.later 4 _ rfl
  have c5 : ∀ r : Later w1, r.out.cell? ⟨xb, 5, none⟩ = some (.int .i64 (fz : Nat)) := HX.out.later 5 _ rfl
  have c6 : ∀ r : Later w1, r.out.cell? ⟨xb, 6, none⟩ = some (.int .u64 (ms : Nat)) := HX.out.later 6 _ rfl
  have c7 : ∀ r : Later w1, r.out.cell? ⟨xb, 7, none⟩ = some (.int .u64 (al : Nat)) := HX.out.later 7 _ rfl
  clear hxb
  refine wp_region_later (by kernel_rfl) (by kernel_rfl) ?_
  repeat (go_big_quiet_step (fail))
  go_big_quiet_step (exact Calls.later _ (B0.out _))
  repeat (go_big_quiet_step (fail))
  go_big_quiet_step (exact Calls.later _ (B1.out _))
  repeat (go_big_quiet_step (fail))
  go_big_quiet_step (exact Calls.later _ (B2.out _))
  repeat (go_big_quiet_step (fail))
  go_big_quiet_step (exact Calls.later _ (B3.out _))
  repeat (go_big_quiet_step (fail))
  go_big_quiet_step (exact Calls.later _ (B4.out _))
  repeat (go_big_quiet_step (fail))
  go_big_quiet_step (exact Calls.later _ (B5.out _))
  repeat (go_big_quiet_step (fail))
  go_big_quiet_step (exact Calls.later _ (B6.out _))
  repeat (go_big_quiet_step (fail))
  go_big_quiet_step (exact Calls.later _ (B7.out _))
  repeat (go_big_quiet_step (fail))
  refine wpQuiet_nil ?_
  intro wq hw'
  obtain ⟨⟨wq2, hwq⟩, hw2⟩ := hw'
  obtain rfl : wq = wq2 := hw2
  go_wp2
  go_returns
  exact ⟨rfl, HB.out.trans hwq⟩
end Go.Proofs.Ytciaebhkemdilaa
