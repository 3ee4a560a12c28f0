/- The document's header of a section (contract of the function). -/
import Derived.Test.YtciaebhkemdilaaElfQa
import Derived.Test.YtciaebhkemdilaaElfO
namespace Go.Proofs.Ytciaebhkemdilaa
open Go.RowKit Go.Conc Go.BigFrame
set_option linter.unusedVariables false
set_option linter.unusedSimpArgs false
set_option maxRecDepth 100000 in
set_option maxHeartbeats 4000000 in
theorem dsection_any (nm dt : ByteArray) (si : Int) (ty fl ad sz lk inf al ea na at_ : Nat) (hty : ty < 4294967296) (hfl : fl < 18446744073709551616) (had : ad < 18446744073709551616) (hsz : sz < 9223372036854775808) (hlk : lk < 4294967296) (hin : inf < 4294967296) (hal : al < 18446744073709551616) (hea : ea < 18446744073709551616) (hna : na < 4294967296) (hat : at_ < 9223372036854775808) (w : World) :
    Calls Try.prog 39 #[.agg #[.string nm, .int .i64 (ty : Nat), .int .u64 (fl : Nat), .int .u64 (ad : Nat), .string dt, .int .i64 si, .int .i64 (lk : Nat), .int .i64 (inf : Nat), .int .u64 (al : Nat), .int .u64 (ea : Nat)], .int .i64 (na : Nat), .int .i64 (at_ : Nat), .int .i64 (sz : Nat)] w fun e w' => e = .returned (.string (shT na ty fl ad at_ sz lk inf al ea)) ∧ Bw w w' := by
  have HX := hid (Has.new w 43 #[.string nm, .int .i64 (ty : Nat), .int .u64 (fl : Nat), .int .u64 (ad : Nat), .string dt, .int .i64 si, .int .i64 (lk : Nat), .int .i64 (inf : Nat), .int .u64 (al : Nat), .int .u64 (ea : Nat)])
  have HB := hid ((Bw.refl w).alloc (.cells #[.string nm, .int .i64 (ty : Nat), .int .u64 (fl : Nat), .int .u64 (ad : Nat), .string dt, .int .i64 si, .int .i64 (lk : Nat), .int .i64 (inf : Nat), .int .u64 (al : Nat), .int .u64 (ea : Nat)] 43))
  obtain ⟨xb, hxb⟩ : ∃ xb, w.heap.size = xb := ⟨_, rfl⟩
  rw [hxb] at HX
  have v0 : IntKind.u64.wrap (na : Int) = na := IntWalk.u64_in _ (by omega)
  have v1 : IntKind.u64.wrap (ty : Int) = ty := IntWalk.u64_in _ (by omega)
  have v2 : IntKind.u64.wrap (at_ : Int) = at_ := IntWalk.u64_in _ (by omega)
  have v3 : IntKind.u64.wrap (sz : Int) = sz := IntWalk.u64_in _ (by omega)
  have v4 : IntKind.u64.wrap (lk : Int) = lk := IntWalk.u64_in _ (by omega)
  have v5 : IntKind.u64.wrap (inf : Int) = inf := IntWalk.u64_in _ (by omega)
  have B0 := hid (fun W => d4_any na (by omega) W)
  obtain ⟨s0, e0⟩ : ∃ s, bytesS na 4 false = s := ⟨_, rfl⟩
  have z0 : s0.size = 4 := by rw [← e0]; exact bytesS_size _ _ _
  rw [e0] at B0
  have B1 := hid (fun W => d4_any ty (by omega) W)
  obtain ⟨s1, e1⟩ : ∃ s, bytesS ty 4 false = s := ⟨_, rfl⟩
  have z1 : s1.size = 4 := by rw [← e1]; exact bytesS_size _ _ _
  rw [e1] at B1
  have B2 := hid (fun W => d8_any fl (by omega) W)
  obtain ⟨s2, e2⟩ : ∃ s, bytesS fl 8 false = s := ⟨_, rfl⟩
  have z2 : s2.size = 8 := by rw [← e2]; exact bytesS_size _ _ _
  rw [e2] at B2
  have B3 := hid (fun W => d8_any ad (by omega) W)
  obtain ⟨s3, e3⟩ : ∃ s, bytesS ad 8 false = s := ⟨_, rfl⟩
  have z3 : s3.size = 8 := by rw [← e3]; exact bytesS_size _ _ _
  rw [e3] at B3
  have B4 := hid (fun W => d8_any at_ (by omega) W)
  obtain ⟨s4, e4⟩ : ∃ s, bytesS at_ 8 false = s := ⟨_, rfl⟩
  have z4 : s4.size = 8 := by rw [← e4]; exact bytesS_size _ _ _
  rw [e4] at B4
  have B5 := hid (fun W => d8_any sz (by omega) W)
  obtain ⟨s5, e5⟩ : ∃ s, bytesS sz 8 false = s := ⟨_, rfl⟩
  have z5 : s5.size = 8 := by rw [← e5]; exact bytesS_size _ _ _
  rw [e5] at B5
  have B6 := hid (fun W => d4_any lk (by omega) W)
  obtain ⟨s6, e6⟩ : ∃ s, bytesS lk 4 false = s := ⟨_, rfl⟩
  have z6 : s6.size = 4 := by rw [← e6]; exact bytesS_size _ _ _
  rw [e6] at B6
  have B7 := hid (fun W => d4_any inf (by omega) W)
  obtain ⟨s7, e7⟩ : ∃ s, bytesS inf 4 false = s := ⟨_, rfl⟩
  have z7 : s7.size = 4 := by rw [← e7]; exact bytesS_size _ _ _
  rw [e7] at B7
  have B8 := hid (fun W => d8_any al (by omega) W)
  obtain ⟨s8, e8⟩ : ∃ s, bytesS al 8 false = s := ⟨_, rfl⟩
  have z8 : s8.size = 8 := by rw [← e8]; exact bytesS_size _ _ _
  rw [e8] at B8
  have B9 := hid (fun W => d8_any ea (by omega) W)
  obtain ⟨s9, e9⟩ : ∃ s, bytesS ea 8 false = s := ⟨_, rfl⟩
  have z9 : s9.size = 8 := by rw [← e9]; exact bytesS_size _ _ _
  rw [e9] at B9
  have HE := hid (show shT na ty fl ad at_ sz lk inf al ea = s0 ++ s1 ++ s2 ++ s3 ++ s4 ++ s5 ++ s6 ++ s7 ++ s8 ++ s9 by
    unfold shT
    simp only [numsT, app_nil, e0, e1, e2, e3, e4, e5, e6, e7, e8, e9, app_as])
  rw [HE.out]
  clear HE e0 e1 e2 e3 e4 e5 e6 e7 e8 e9
  go_enter Try.func39, Try.ntmps39
  go_upto_region 1 with fail
  generalize w.alloc (.cells #[.string nm, .int .i64 (ty : Nat), .int .u64 (fl : Nat), .int .u64 (ad : Nat), .string dt, .int .i64 si, .int .i64 (lk : Nat), .int .i64 (inf : Nat), .int .u64 (al : Nat), .int .u64 (ea : Nat)] 43) = w1 at *
  have c1 : ∀ r : Later w1, r.out.cell? ⟨xb, 1, none⟩ = some (.int .i64 (ty : Nat)) := HX.out.later 1 _ rfl
  have c2 : ∀ r : Later w1, r.out.cell? ⟨xb, 2, none⟩ = some (.int .u64 (fl : Nat)) := HX.out.later 2 _ rfl
  have c3 : ∀ r : Later w1, r.out.cell? ⟨xb, 3, none⟩ = some (.int .u64 (ad : Nat)) := HX.out.later 3 _ rfl
  have c6 : ∀ r : Later w1, r.out.cell? ⟨xb, 6, none⟩ = some (.int .i64 (lk : Nat)) := HX.out.later 6 _ rfl
  have c7 : ∀ r : Later w1, r.out.cell? ⟨xb, 7, none⟩ = some (.int .i64 (inf : Nat)) := HX.out.later 7 _ rfl
  have c8 : ∀ r : Later w1, r.out.cell? ⟨xb, 8, none⟩ = some (.int .u64 (al : Nat)) := HX.out.later 8 _ rfl
  have c9 : ∀ r : Later w1, r.out.cell? ⟨xb, 9, none⟩ = some (.int .u64 (ea : Nat)) := HX.out.later 9 _ rfl
  clear hxb
  refine wp_region_later (by kernel_rfl) (by kernel_rfl) ?_
  repeat (go_big_quiet_step (fail))
  go_big_quiet_step (exact Calls.later _ (B0.out _))
  repeat (go_big_quiet_step (fail))
  go_big_quiet_step (exact Calls.later _ (B1.out _))
  repeat (go_big_quiet_step (fail))
  go_big_quiet_step (exact Calls.later _ (B2.out _))
  repeat (go_big_quiet_step (fail))
  go_big_quiet_step (exact Calls.later _ (B3.out _))
  repeat (go_big_quiet_step (fail))
  go_big_quiet_step (exact Calls.later _ (B4.out _))
  repeat (go_big_quiet_step (fail))
  go_big_quiet_step (exact Calls.later _ (B5.out _))
  repeat (go_big_quiet_step (fail))
  go_big_quiet_step (exact Calls.later _ (B6.out _))
  repeat (go_big_quiet_step (fail))
  go_big_quiet_step (exact Calls.later _ (B7.out _))
  repeat (go_big_quiet_step (fail))
  go_big_quiet_step (exact Calls.later _ (B8.out _))
  repeat (go_big_quiet_step (fail))
  go_big_quiet_step (exact Calls.later _ (B9.out _))
  repeat (go_big_quiet_step (fail))
  refine wpQuiet_nil ?_
  intro wq hw'
  obtain ⟨⟨wq2, hwq⟩, hw2⟩ := hw'
  obtain rfl : wq = wq2 := hw2
  go_wp2
  go_returns
  exact ⟨rfl, HB.out.trans hwq⟩
end Go.Proofs.Ytciaebhkemdilaa
