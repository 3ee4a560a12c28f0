/- The document's head of a file (contract of the function). -/
import Derived.Test.YtciaebhkemdilaaElfQa
import Derived.Test.YtciaebhkemdilaaElfU
import Derived.Deep.RegionHeld
import Derived.Deep.DeepCutAuto
namespace Go.Proofs.Ytciaebhkemdilaa
open Go.RowKit Go.Conc Go.BigFrame
set_option linter.unusedVariables false
set_option linter.unusedSimpArgs false
/-- Nine bytes 0 lie in a block. -/
structure Nine (W : World) (g : Nat) : Prop where
  row : RowM W 0 5 (.slice (some ⟨g, 0, none⟩) 9 9) (zerosT 9)
theorem Nine.bw {w w' : World} {g : Nat} (h : Nine w g) (hb : Bw w w') : Nine w' g := ⟨h.row.bw hb⟩
theorem nine_conv (W : World) (g : Nat) (h : Nine W g) : (convert 40 9 (.slice (some ⟨g, 0, none⟩) 9 9)).run Try.prog W = .ok (.string (zerosT 9)) W := convM h.row
set_option maxRecDepth 100000 in
set_option maxHeartbeats 4000000 in
theorem dhead_any (ty ma en fl sA n k : Nat) (a b : Option Addr) (c d : Nat) (hty : ty < 65536) (hma : ma < 65536) (hen : en < 18446744073709551616) (hfl : fl < 4294967296) (hsA : sA < 9223372036854775808) (hn : n ≤ 1000) (hk : k ≤ 1000) (w : World) :
    Calls Try.prog 40 #[.agg #[.int .i64 (ty : Nat), .int .i64 (ma : Nat), .int .u64 (en : Nat), .int .i64 (fl : Nat), .slice a n c, .slice b k d], .int .i64 (pOf n : Nat), .int .i64 (sA : Nat)] w fun e w' => e = .returned (.string (headT ty ma en fl sA n k)) ∧ Bw w w' := by
  have HX := hid (Has.new w 27 #[.int .i64 (ty : Nat), .int .i64 (ma : Nat), .int .u64 (en : Nat), .int .i64 (fl : Nat), .slice a n c, .slice b k d])
  have HB := hid ((Bw.refl w).alloc (.cells #[.int .i64 (ty : Nat), .int .i64 (ma : Nat), .int .u64 (en : Nat), .int .i64 (fl : Nat), .slice a n c, .slice b k d] 27))
  obtain ⟨xb, hxb⟩ : ∃ xb, w.heap.size = xb := ⟨_, rfl⟩
  rw [hxb] at HX
  have v0 : IntKind.u64.wrap (ty : Int) = ty := IntWalk.u64_in _ (by omega)
  have v1 : IntKind.u64.wrap (ma : Int) = ma := IntWalk.u64_in _ (by omega)
  have B0 := hid (fun W => d2_any ty (by omega) W)
  obtain ⟨s0, e0⟩ : ∃ s, bytesS ty 2 false = s := ⟨_, rfl⟩
  have z0 : s0.size = 2 := by rw [← e0]; exact bytesS_size _ _ _
  rw [e0] at B0
  have B1 := hid (fun W => d2_any ma (by omega) W)
  obtain ⟨s1, e1⟩ : ∃ s, bytesS ma 2 false = s := ⟨_, rfl⟩
  have z1 : s1.size = 2 := by rw [← e1]; exact bytesS_size _ _ _
  rw [e1] at B1
  have B2 := hid (fun W => (show Calls Try.prog 67 #[.int .u64 1, .int .i64 4] W fun e w' => e = .returned (.string (bytesS 1 4 false)) ∧ Bw W w' from d4_any 1 (by omega) W))
  obtain ⟨s2, e2⟩ : ∃ s, bytesS 1 4 false = s := ⟨_, rfl⟩
  have z2 : s2.size = 4 := by rw [← e2]; exact bytesS_size _ _ _
  rw [e2] at B2
  have B3 := hid (fun W => d8_any en (by omega) W)
  obtain ⟨s3, e3⟩ : ∃ s, bytesS en 8 false = s := ⟨_, rfl⟩
  have z3 : s3.size = 8 := by rw [← e3]; exact bytesS_size _ _ _
  rw [e3] at B3
  obtain ⟨ZC, hZC⟩ : ∃ ZC, Obj.cells (madeCells #[.int .u8 0] 9) 5 = ZC := ⟨_, rfl⟩
  have HMS : ∀ W : World, (Instr.makeSlice 40 (.int .i64 9) (.int .i64 9)).run Try.prog W = .ok (.slice (some ⟨W.heap.size, 0, none⟩) 9 9) (W.alloc ZC) := fun W => by rw [← hZC]; exact make_bytes 9 (by decide) W
  have HZ0 : ∀ W : World, Nine (W.alloc ZC) W.heap.size := fun W => ⟨by rw [← hZC]; exact RowM.zeros W 0 9 (by decide) (Nat.zero_le _)⟩
  have HZ1 : ∀ W : World, Nine (W.alloc ZC).drew W.heap.size := fun W => (HZ0 W).bw ((Bw.refl _).drewN 1)
  have HCV := nine_conv
  obtain ⟨k2, hk2⟩ : ∃ x, k + 2 = x := ⟨_, rfl⟩
  obtain ⟨k1, hk1⟩ : ∃ x, k + 1 = x := ⟨_, rfl⟩
  have hk29 : k2 ≤ 1002 := by omega
  have hk19 : k1 ≤ 1001 := by omega
  have v3 : IntKind.i64.wrap ((k : Int) + 2) = (k2 : Int) := (IntWalk.i64_in _ (by omega)).trans (by omega)
  have v4 : IntKind.i64.wrap ((k : Int) + 1) = (k1 : Int) := (IntWalk.i64_in _ (by omega)).trans (by omega)
  have v5 : IntKind.u64.wrap (k2 : Int) = k2 := IntWalk.u64_in _ (by omega)
  have v6 : IntKind.u64.wrap (k1 : Int) = k1 := IntWalk.u64_in _ (by omega)
  have v7 : IntKind.u64.wrap (n : Int) = n := IntWalk.u64_in _ (by omega)
  obtain ⟨P, hP⟩ : ∃ P, pOf n = P := ⟨_, rfl⟩
  have hP9 : P ≤ 64 := by rw [← hP]; unfold pOf; split <;> omega
  have v8 : IntKind.u64.wrap (P : Int) = P := IntWalk.u64_in _ (by omega)
  have v9 : IntKind.u64.wrap (sA : Int) = sA := IntWalk.u64_in _ (by omega)
  have v10 : IntKind.u64.wrap (fl : Int) = fl := IntWalk.u64_in _ (by omega)
  have C0 := hid (fun W => (show Calls Try.prog 67 #[.int .u64 64, .int .i64 2] W fun e w' => e = .returned (.string (bytesS 64 2 false)) ∧ Bw W w' from d2_any 64 (by omega) W))
  obtain ⟨t0, f0⟩ : ∃ s, bytesS 64 2 false = s := ⟨_, rfl⟩
  have y0 : t0.size = 2 := by rw [← f0]; exact bytesS_size _ _ _
  rw [f0] at C0
  have C1 := hid (fun W => (show Calls Try.prog 67 #[.int .u64 56, .int .i64 2] W fun e w' => e = .returned (.string (bytesS 56 2 false)) ∧ Bw W w' from d2_any 56 (by omega) W))
  obtain ⟨t1, f1⟩ : ∃ s, bytesS 56 2 false = s := ⟨_, rfl⟩
  have y1 : t1.size = 2 := by rw [← f1]; exact bytesS_size _ _ _
  rw [f1] at C1
  have C2 := hid (fun W => d2_any n (by omega) W)
  obtain ⟨t2, f2⟩ : ∃ s, bytesS n 2 false = s := ⟨_, rfl⟩
  have y2 : t2.size = 2 := by rw [← f2]; exact bytesS_size _ _ _
  rw [f2] at C2
  have C3 := hid (fun W => (show Calls Try.prog 67 #[.int .u64 64, .int .i64 2] W fun e w' => e = .returned (.string (bytesS 64 2 false)) ∧ Bw W w' from d2_any 64 (by omega) W))
  obtain ⟨t3, f3⟩ : ∃ s, bytesS 64 2 false = s := ⟨_, rfl⟩
  have y3 : t3.size = 2 := by rw [← f3]; exact bytesS_size _ _ _
  rw [f3] at C3
  have C4 := hid (fun W => d2_any k2 (by omega) W)
  obtain ⟨t4, f4⟩ : ∃ s, bytesS k2 2 false = s := ⟨_, rfl⟩
  have y4 : t4.size = 2 := by rw [← f4]; exact bytesS_size _ _ _
  rw [f4] at C4
  have C5 := hid (fun W => d2_any k1 (by omega) W)
  obtain ⟨t5, f5⟩ : ∃ s, bytesS k1 2 false = s := ⟨_, rfl⟩
  have y5 : t5.size = 2 := by rw [← f5]; exact bytesS_size _ _ _
  rw [f5] at C5
  have D0 := hid (fun W => d8_any P (by omega) W)
  obtain ⟨q0, g0⟩ : ∃ s, bytesS P 8 false = s := ⟨_, rfl⟩
  have x0 : q0.size = 8 := by rw [← g0]; exact bytesS_size _ _ _
  rw [g0] at D0
  have D1 := hid (fun W => d8_any sA (by omega) W)
  obtain ⟨q1, g1⟩ : ∃ s, bytesS sA 8 false = s := ⟨_, rfl⟩
  have x1 : q1.size = 8 := by rw [← g1]; exact bytesS_size _ _ _
  rw [g1] at D1
  have D2 := hid (fun W => d4_any fl (by omega) W)
  obtain ⟨q2, g2⟩ : ∃ s, bytesS fl 4 false = s := ⟨_, rfl⟩
  have x2 : q2.size = 4 := by rw [← g2]; exact bytesS_size _ _ _
  rw [g2] at D2
  obtain ⟨z9, hz9⟩ : ∃ z, zerosT 9 = z := ⟨_, rfl⟩
  obtain ⟨F0, hF0⟩ : ∃ x : ByteArray, ⟨#[127, 69, 76, 70, 2, 1, 1]⟩ ++ z9 ++ s0 ++ s1 ++ s2 ++ s3 = x := ⟨_, rfl⟩
  obtain ⟨S2, hS2⟩ : ∃ x : ByteArray, t0 ++ t1 ++ t2 ++ t3 ++ t4 ++ t5 = x := ⟨_, rfl⟩
  have hzF : F0.size = 32 := by
    rw [← hF0, ByteArray.size_append, ByteArray.size_append, ByteArray.size_append, ByteArray.size_append, ByteArray.size_append, z0, z1, z2, z3, ← hz9, zerosT_size]
    rfl
  have hzS : S2.size = 12 := by
    rw [← hS2, ByteArray.size_append, ByteArray.size_append, ByteArray.size_append, ByteArray.size_append, ByteArray.size_append, y0, y1, y2, y3, y4, y5]
  have HE := hid (show headT ty ma en fl sA n k = F0 ++ q0 ++ q1 ++ q2 ++ S2 by
    unfold headT
    rw [← hF0, ← hS2, ← hz9, hP, hk1, hk2, show magT = ⟨#[127, 69, 76, 70, 2, 1, 1]⟩ ++ zerosT 9 from by apply ba_ext; decide]
    simp only [numsT, app_nil, e0, e1, e2, e3, f0, f1, f2, f4, f5, g0, g1, g2, app_as, show t3 = t0 from f3.symm.trans f0])
  rw [HE.out, hP]
  have HF0 := hid hF0
  have HS2 := hid hS2
  clear HE e0 e1 e2 e3 f0 f1 f2 f3 f4 f5 g0 g1 g2 hF0 hS2 hk1 hk2 hP
  have zz9 : z9.size = 9 := by rw [← hz9, zerosT_size]
  rw [hz9] at HCV
  clear hZC hz9
  go_enter Try.func40, Try.ntmps40
  go_upto_region 1 with fail
  generalize w.alloc (.cells #[.int .i64 (ty : Nat), .int .i64 (ma : Nat), .int .u64 (en : Nat), .int .i64 (fl : Nat), .slice a n c, .slice b k d] 27) = w1 at *
  have HALL := hid (fun W (h : Bw w1 W) => (show W.cell? ⟨xb, 0, none⟩ = some (.int .i64 ty) ∧ W.cell? ⟨xb, 1, none⟩ = some (.int .i64 ma) ∧ W.cell? ⟨xb, 2, none⟩ = some (.int .u64 en) from ⟨(h.has HX.out).cell 0, (h.has HX.out).cell 1, (h.has HX.out).cell 2⟩))
  have hq : Bw w1 w1.drew := (Bw.refl w1).drewN 1
  have hqa : Bw w1 (w1.alloc ZC).drew := ((Bw.refl w1).alloc ZC).drewN 1
  have BD := hid (fun W (h : Bw w1 W) => (show Bw w1 (W.alloc ZC) from h.alloc ZC))
  clear hxb
  go_cut [7] from 9 to 27 (fun v W => v = .string F0 ∧ Bw w1 W)
  case first =>
    go_region_held (fun W => W.cell? ⟨xb, 0, none⟩ = some (.int .i64 ty) ∧ W.cell? ⟨xb, 1, none⟩ = some (.int .i64 ma) ∧ W.cell? ⟨xb, 2, none⟩ = some (.int .u64 en))
      (first | exact HALL.out _ (by assumption) | exact HALL.out _ (BD.out _ (by assumption)))
      (first | (go_at_call 67; with_reducible (first | refine (B0.out _).mono ?_ | refine (B1.out _).mono ?_ | refine (B2.out _).mono ?_ | refine (B3.out _).mono ?_); rintro e w4 ⟨rfl, hb4⟩; have hq4 : Bw w1 w4 := (by first | exact Bw.trans (by assumption) hb4 | exact Bw.trans (BD.out _ (by assumption)) hb4); (first | have hz4 := Nine.bw (HZ1 w1) hb4 | have hz4 := Nine.bw (HZ0 _) hb4 | have hz4 := Nine.bw (by assumption) hb4 | skip)))
    all_goals go_wp2
    all_goals go_meet
    all_goals (first | exact ⟨HF0.out, by assumption⟩ | exact ⟨HF0.out, BD.out _ (by assumption)⟩ | exact ⟨congrArg _ HF0.out, by assumption⟩ | exact ⟨congrArg _ HF0.out, BD.out _ (by assumption)⟩)
  case rest =>
    obtain ⟨rfl, hb6⟩ := hcut
    have HX6 := hid (hb6.has HX.out)
    have HB6 := hid (HB.out.trans hb6)
    clear hb6 hq hqa HMS HZ0 HZ1 HCV HALL BD B0 B1 B2 B3 HB HX
    go_upto_region 2 with fail
    have c4 : ∀ r : Later wc, r.out.cell? ⟨xb, 4, none⟩ = some (.slice a n c) := HX6.out.later 4 _ rfl
    have c5 : ∀ r : Later wc, r.out.cell? ⟨xb, 5, none⟩ = some (.slice b k d) := HX6.out.later 5 _ rfl
    refine wp_region_later (by kernel_rfl) (by kernel_rfl) ?_
    repeat (go_big_quiet_step (fail))
    go_big_quiet_step (exact Calls.later _ (C0.out _))
    repeat (go_big_quiet_step (fail))
    go_big_quiet_step (exact Calls.later _ (C1.out _))
    repeat (go_big_quiet_step (fail))
    go_big_quiet_step (exact Calls.later _ (C2.out _))
    repeat (go_big_quiet_step (fail))
    go_big_quiet_step (exact Calls.later _ (C3.out _))
    repeat (go_big_quiet_step (fail))
    go_big_quiet_step (exact Calls.later _ (C4.out _))
    repeat (go_big_quiet_step (fail))
    go_big_quiet_step (exact Calls.later _ (C5.out _))
    repeat (go_big_quiet_step (fail))
    refine wpQuiet_nil ?_
    intro wq hw'
    obtain ⟨⟨wq2, hwq⟩, hw2⟩ := hw'
    obtain rfl : wq = wq2 := hw2
    rw [HS2.out]
    have HX7 := hid (hwq.has HX6.out)
    have HB7 := hid (HB6.out.trans hwq)
    clear c4 c5 C0 C1 C2 C3 C4 C5 hwq HX6 HB6
    go_upto_region 3 with fail
    have c3 : ∀ r : Later wq, r.out.cell? ⟨xb, 3, none⟩ = some (.int .i64 fl) := HX7.out.later 3 _ rfl
    refine wp_region_later (by kernel_rfl) (by kernel_rfl) ?_
    repeat (go_big_quiet_step (fail))
    go_big_quiet_step (exact Calls.later _ (D0.out _))
    repeat (go_big_quiet_step (fail))
    go_big_quiet_step (exact Calls.later _ (D1.out _))
    repeat (go_big_quiet_step (fail))
    go_big_quiet_step (exact Calls.later _ (D2.out _))
    repeat (go_big_quiet_step (fail))
    refine wpQuiet_nil ?_
    intro wp hw'
    obtain ⟨⟨wp2, hwp⟩, hw2⟩ := hw'
    obtain rfl : wp = wp2 := hw2
    go_wp2
    go_returns
    exact ⟨rfl, HB7.out.trans hwp⟩
end Go.Proofs.Ytciaebhkemdilaa
