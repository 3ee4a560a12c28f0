/- ElfHeads returns true for every model, every int and every byte, and changes nothing that was there; no condition. -/
import Derived.Test.YtciaebhkemdilaaElfTb
import Derived.Test.YtciaebhkemdilaaRows
import Derived.ProofKit
import Derived.ChangeMaps
import Derived.OpenShut
import Derived.ShutString
import Derived.ChangeOld
namespace Go.Proofs.Ytciaebhkemdilaa.elfHeads
open Go.ChangeMaps (open_string shut_string)
open Go.RowKit Go.ChangeShapes Go.WideShapes Go.ChangeAt
set_option linter.unusedVariables false
set_option maxRecDepth 100000 in
set_option maxHeartbeats 8000000 in
theorem walk (m : ElfR) (a b : Option Addr) (n k c d : Nat) (hn9 : n ≤ 9223372036854775807) (hk9 : k ≤ 9223372036854775807) (t : Int) (ht : -9223372036854775808 ≤ t ∧ t ≤ 9223372036854775807) (y : Nat) (hy : y < 256) (w : World) (hin : InM w m a b n k) :
    Calls Try.prog 8 #[.agg #[.int .i64 m.typ, .int .i64 m.mac, .int .u64 m.ent, .int .i64 m.flg, .slice a n c, .slice b k d], .int .i64 t, .int .u8 y] w fun e w' => e = .returned (.bool true) ∧ Bw w w' := by
  have HIN := hid hin
  have HSM := hid (fun W (h : InM W m a b n k) => small_any m a b n k c d h.hn h.hk hn9 hk9 W h.at_)
  have HM1 := hid (Has.new w 27 #[.int .i64 m.typ, .int .i64 m.mac, .int .u64 m.ent, .int .i64 m.flg, .slice a n c, .slice b k d])
  have HB1 := hid ((Bw.refl w).alloc (.cells #[.int .i64 m.typ, .int .i64 m.mac, .int .u64 m.ent, .int .i64 m.flg, .slice a n c, .slice b k d] 27))
  obtain ⟨mb, hmb⟩ : ∃ mb, w.heap.size = mb := ⟨_, rfl⟩
  rw [hmb] at HM1
  clear hin
  go_enter Try.func8, Try.ntmps8
  go_upto_region 1 with fail
  generalize w.alloc (.cells #[.int .i64 m.typ, .int .i64 m.mac, .int .u64 m.ent, .int .i64 m.flg, .slice a n c, .slice b k d] 27) = w1 at *
  clear hmb
  refine wp_region_list ?_
  refine wpList_load_mid rfl 27 (.tmp 3) rfl (mb) 0 rfl [.int .i64 m.typ, .int .i64 m.mac, .int .u64 m.ent, .int .i64 m.flg, .slice a n c, .slice b k d] _ HM1.out.range Try.underlying27 rfl inf_ElfW ?_
  go_wp2_with fail
  refine (HSM.out _ (HIN.out.bw HB1.out)).mono ?_
  rintro e w2 ⟨sb, rfl, hb2, hS⟩
  have HS := hid hS
  have HB2 := hid (HB1.out.trans hb2)
  have HM2 := hid (hb2.has HM1.out)
  clear hb2 hS HM1 HB1 HSM
  cases sb with
  | false =>
    go_wp2_with fail
    refine (live_any _).mono ?_
    rintro e wl ⟨rfl, hbl⟩
    have HBL := hid ((HB2.out).trans hbl)
    clear hbl
    go_wp2
    go_returns
    exact ⟨rfl, HBL.out⟩
  | true =>
    have HSS := hid (HS.out rfl)
    clear HS
    by_cases hq : y = 0
    · subst hq
      go_wp2_with fail
      refine (live_any _).mono ?_
      rintro e wl ⟨rfl, hbl⟩
      have HBL := hid ((HB2.out).trans hbl)
      clear hbl
      go_wp2
      go_returns
      exact ⟨rfl, HBL.out⟩
    have hq1 : ((y : Int) == 0) = false := by rw [beq_eq_false_iff_ne]; omega
    go_upto_region 3 with fail
    refine wp_region_list ?_
    refine wpList_load_mid rfl 27 (.tmp 3) rfl (mb) 0 rfl [.int .i64 m.typ, .int .i64 m.mac, .int .u64 m.ent, .int .i64 m.flg, .slice a n c, .slice b k d] _ HM2.out.range Try.underlying27 rfl inf_ElfW ?_
    go_wp2_with fail
    refine (write_in (HIN.out.bw HB2.out) HSS.out).mono ?_
    rintro e w3 ⟨hb3, hq⟩
    have HB3 := hid (HB2.out.trans hb3)
    have HM3 := hid (hb3.has HM2.out)
    clear hb3 HB2 HM2
    rcases hq with ⟨hv, rfl⟩ | ⟨hv, rfl⟩
    case inr =>
      go_wp2_with fail
      refine (live_any _).mono ?_
      rintro e wl ⟨rfl, hbl⟩
      have HBL := hid ((HB3.out).trans hbl)
      clear hbl
      go_wp2
      go_returns
      exact ⟨rfl, HBL.out⟩
    have HWR := hid (small_wr HIN.out HSS.out hv)
    have HSZ := hid (small_size HSS.out)
    obtain ⟨T, hT⟩ : ∃ T, writeT m = T := ⟨_, rfl⟩
    rw [hT] at HSZ ⊢
    have HT := hid hT
    have hT8 := HSZ.out
    have HT64 := hid (show 64 ≤ T.size by have := HWR.out.base.1; have := (hd_is this).1; rw [HT.out] at this; exact this)
    have HHD := hid (show HeadOk T by have := HWR.out.head.1; rw [HT.out] at this; exact this)
    obtain ⟨u, hu, hu0⟩ : ∃ u : Nat, ((if t < 0 then -(t + 1) else t) : Int) = u ∧ (u : Int) ≤ 9223372036854775807 := by
      split
      · exact ⟨(-(t + 1)).toNat, by omega, by omega⟩
      · exact ⟨t.toNat, by omega, by omega⟩
    have HU := hid hu
    have v1 : t < 0 → IntKind.i64.wrap (t + 1) = t + 1 := fun h => IntWalk.i64_in _ (by omega)
    have v2 : t < 0 → IntKind.i64.wrap (-(t + 1)) = (u : Int) := fun h => by
      rw [if_pos h] at hu
      rw [IntWalk.i64_in _ (by omega)]; omega
    have v3 : ¬ t < 0 → t = (u : Int) := fun h => by rw [if_neg h] at hu; exact hu
    obtain ⟨r, hr⟩ : ∃ r, u % 24 = r := ⟨_, rfl⟩
    have hr24 : r < 24 := by omega
    have v4 : (u : Int).tmod 24 = (r : Int) := by rw [Int.tmod_eq_emod_of_nonneg (by omega)]; omega
    obtain ⟨j, hj⟩ : ∃ j, headK r = j := ⟨_, rfl⟩
    have hj64 : j < 64 := by rw [← hj]; unfold headK; split <;> (try split) <;> omega
    have HC := hid (show ((20 : Int) ≤ r ∧ 52 + (r : Int) - 20 = (j : Int)) ∨ ((r : Int) < 20 ∧ (16 : Int) ≤ r ∧ 20 + (r : Int) - 16 = (j : Int)) ∨ ((r : Int) < 20 ∧ (r : Int) < 16 ∧ (r : Int) = (j : Int)) by
      rw [← hj]
      unfold headK
      by_cases h20 : 20 ≤ r
      · rw [if_pos h20]; exact .inl ⟨by omega, by omega⟩
      · rw [if_neg h20]
        by_cases h16 : 16 ≤ r
        · rw [if_pos h16]; exact .inr (.inl ⟨by omega, by omega, by omega⟩)
        · rw [if_neg h16]; exact .inr (.inr ⟨by omega, by omega, rfl⟩))
    have hx8 : bt T j ^^^ y < 256 := xor_lt8 (bt_lt T j) hy
    obtain ⟨x, hx⟩ : ∃ x, bt T j ^^^ y = x := ⟨_, rfl⟩
    have v7 : bits .xor .u8 ((bt T j : Nat) : Int) (y : Int) = (x : Int) := by rw [← hx]; exact u8_xor_nat _ _ (bt_lt T j) hy
    have hcx : (UInt8.ofNat x).toNat = x := by rw [UInt8.toNat_ofNat']; omega
    have HE := hid (show readE (putB T j (UInt8.ofNat x)) = 3 from
      head_turned HHD.out HT64.out (by rw [putB_size]; exact HT64.out) hr24 (by rw [hj, putB_bt _ _ _ (by have := HT64.out; omega), hcx, ← hx]; exact xor_ne hq))
    have HCX := hid hcx
    have HPZ := hid (show (putB T j (UInt8.ofNat x)).size ≤ 100000000 by rw [putB_size]; omega)
    have HJ64 := hid hj64
    obtain ⟨z, hz⟩ : ∃ z, bt T j = z := ⟨_, rfl⟩
    have HZ := hid hz
    rw [hz] at v7
    have w1' : IntKind.i64.wrap (52 + (r : Int)) = 52 + (r : Int) := IntWalk.i64_in _ (by omega)
    have w2' : IntKind.i64.wrap (20 + (r : Int)) = 20 + (r : Int) := IntWalk.i64_in _ (by omega)
    have HCV := hid (fun W => run_bytes_of_string (P := Try.prog) W 9 40 5 T Try.underlying9 Try.underlying40 Try.underlying5)
    have hjT : (j : Int) < (T.size : Int) := by have := HT64.out; omega
    have hjT2 : j < T.size := by omega
    clear hu hT hr hj hx hz hcx hv
    go_upto_region 8 with fail
    rotate_left
    obtain rfl := v3 (by omega)
    all_goals
      clear v1 v2 v3
      rcases HC.out with ⟨q1, e1⟩ | ⟨q1, q2, e1⟩ | ⟨q1, q2, e1⟩
    all_goals
      try (have w3' : IntKind.i64.wrap (52 + (r : Int) - 20) = (j : Int) := (IntWalk.i64_in _ (by omega)).trans (by omega))
      try (have w4' : IntKind.i64.wrap (20 + (r : Int) - 16) = (j : Int) := (IntWalk.i64_in _ (by omega)).trans (by omega))
    all_goals
      go_wp2_with fail
      rw [HCV.out]
      have HM5 := hid (RowM.made (e := 5) w3 w.heap.size T (by unfold maxLen; omega) HB3.out.size)
      have HB5a := hid (HB3.out.trans (((Bw.refl w3).drewN 1).alloc (.cells (bytesRow T (grownCap w3 T.size 0 5)) 5 ((bytesRow T (grownCap w3 T.size 0 5)).size, (bytesRow T (grownCap w3 T.size 0 5)).size + 1))))
      have HB5 : Hid (Bw w (w3.drew.alloc (.cells (bytesRow T (grownCap w3 T.size 0 5)) 5 ((bytesRow T (grownCap w3 T.size 0 5)).size, (bytesRow T (grownCap w3 T.size 0 5)).size + 1)))) := HB5a
      clear HB5a
      generalize (w3.drew.alloc (.cells (bytesRow T (grownCap w3 T.size 0 5)) 5 ((bytesRow T (grownCap w3 T.size 0 5)).size, (bytesRow T (grownCap w3 T.size 0 5)).size + 1))) = w5 at *
      generalize grownCap w3 T.size 0 5 = cap0 at *
      generalize w3.heap.size = g0 at *
      clear HCV
      obtain ⟨g5, cp5, hsl, hg5, hl5, hc5⟩ := HM5.out.slot (by omega)
      injection hsl with i1 _ i3
      injection i1 with i1
      injection i1 with i1
      subst i1 i3
      have k0 := (hc5 j hjT2).1
      have f0 := (hc5 j hjT2).2
      rw [HZ.out] at k0
      have HP := hid (HM5.out.put hjT2 (UInt8.ofNat x))
      rw [HCX.out] at HP
      have HBP := hid (show Bw w (w5.setCell ⟨g0, j, none⟩ (.int .u8 x)) from Below.setCell (p := ⟨g0, j, none⟩) HB5.out hg5 (.int .u8 x))
      clear hc5 hl5
      go_upto_region 17 with fail
      generalize w5.setCell ⟨g0, j, none⟩ (.int .u8 x) = w6 at *
      have HCB := hid (convM HP.out)
      have HRD := hid (fun W => read_in (putB T j (UInt8.ofNat x)) HPZ.out zeroM 3 (readM_bad (by rw [HE.out]; decide)) HE.out 0 0 rfl rfl W)
      unfold zeroM at HRD
      clear k0 f0 HP HM5 HB5
      go_wp2_with fail
      try rw [HCB.out]
      go_wp2_with fail
      refine (HRD.out _).mono ?_
      rintro e w7 ⟨a1, c1, b1, d1, rfl, hb7, -⟩
      have HB7 := hid ((HBP.out.trans hb7).alloc (.cells #[.int .i64 0, .int .i64 0, .int .u64 0, .int .i64 0, .slice a1 0 c1, .slice b1 0 d1] 27))
      clear hb7
      simp only at HB7 ⊢
      go_upto_region 18 with fail
      generalize w7.alloc _ = w8 at *
      go_wp2_with fail
      refine (live_any _).mono ?_
      rintro e wl ⟨rfl, hbl⟩
      have HBL := hid ((HB7.out).trans hbl)
      clear hbl
      go_wp2
      go_returns
      exact ⟨rfl, HBL.out⟩

/-! The frame: from the walk to the statement. -/
theorem own : ownKnob Try.prog.godebug = none := by kernel_rfl
theorem laidOut : laidOutB Try.prog = true := by kernel_rfl
set_option maxRecDepth 100000 in
theorem lifted (os : Os) (started : os.Started) (H : Type) (enc : TypeId × Value → H) :
    ReturnsInHanded {} Try.checked os 8 .any (Rows.elfHeadsSpec.pre6 enc Try.prog Try.f8 Rows.elfHeadsRow.domain false) (Rows.elfHeadsSpec.post enc Try.prog Try.f8 false true false false) := by
  refine returnsInHanded_of_change_sized (C := Try.checked) own started (by kernel_rfl) Try.func8
    (ChangeSpec.witness6 (enc := enc) (C := Try.checked) false ⟨#[], #[.agg #[.int .i64 0, .int .i64 0, .int .u64 0, .int .i64 0, .slice none 0 0, .slice none 0 0], .int .i64 0, .int .u8 0], []⟩ 8 (by kernel_rfl) (by kernel_rfl) (by kernel_rfl) (by kernel_rfl)) ?_
  intro W base args ds gs before hval0 hW hcnd hsz0 _
  have hval : ∀ (j : Nat) t v, Try.f8.params[j]? = some t → args[j]? = some v → Value.okWide Try.prog W .any base t v := hval0
  have hW' := hW
  obtain ⟨p, q, hA0, hV, rfl, hfz, hnd⟩ := hW
  have hA : DataW.TrodAll enc Try.prog W 0 (fun _ => true) true Try.f8.params.toList args.toList ds p := hA0
  have hsz : (DataW.weightsEach Try.prog (Try.f8.params.toList ++ Rows.elfHeadsSpec.plain.varTypes Try.prog) (ds ++ gs)).all (· ≤ reachBytes) = true := hsz0
  rw [Try.params8] at hA hval hsz
  obtain ⟨v0, vs0, d0, ds0, p0, q0, hargs, rfl, rfl, h0, r0⟩ := trodAll_cons hA
  obtain ⟨v1, vs1, d1, ds1, p1, q1, rfl, rfl, rfl, h1, r1⟩ := trodAll_cons r0
  obtain ⟨v2, vs2, d2, ds2, p2, q2, rfl, rfl, rfl, h2, r2⟩ := trodAll_cons r1
  obtain ⟨rfl, rfl, rfl⟩ := trodAll_nil r2
  obtain rfl : args = #[v0, v1, v2] := by cases args; simp_all
  obtain ⟨rfl, rfl⟩ := trodVars_none hV
  have k0 := h0
  have lt0 : ∀ x ∈ p0, x.block < W.heap.size := by obtain ⟨m, hm⟩ := k0; exact DataW.trod_lt m _ _ _ hm
  obtain ⟨cs0, fd0, rfl, hlen0, rfl, hdl0, hf0⟩ := open_struct Try.underlying27 (by kernel_rfl) (by kernel_rfl) (hval 0 27 v0 rfl rfl) h0
  obtain ⟨x00, c00, _, _⟩ := hf0.int 0 rfl Try.underlying3
  obtain ⟨x01, c01, _, _⟩ := hf0.int 1 rfl Try.underlying3
  obtain ⟨x02, c02, _, wf02⟩ := hf0.int 2 rfl Try.underlying23
  obtain ⟨x03, c03, _, _⟩ := hf0.int 3 rfl Try.underlying3
  obtain ⟨u0, y0, nn0, c04, _, t0⟩ := hf0 4 _ rfl
  obtain ⟨A0, len0, cap0, l0, he0, hl0, hll0, hst0⟩ := open_seg t0
  obtain ⟨U0, Y0, NN0, c05, _, T0⟩ := hf0 5 _ rfl
  obtain ⟨B0, Len0, Cap0, L0, hE0, hL0, hLL0, hST0⟩ := open_sec T0
  subst he0 hE0
  obtain rfl := list6 hlen0 c00 c01 c02 c03 c04 c05
  have en0 : 0 ≤ x02 ∧ x02 ≤ 18446744073709551615 := by have h := wf02; simp [Lit.wf, IntKind.min, IntKind.max, IntKind.signed, IntKind.bits] at h; omega
  obtain ⟨X0, rfl⟩ : ∃ X : Nat, x02 = (X : Int) := ⟨x02.toNat, by omega⟩
  obtain ⟨a1, rfl, rfl, rfl, w1⟩ := open_int Try.underlying3 (hval 1 3 v1 rfl rfl) h1
  obtain ⟨a2, rfl, rfl, rfl, w2⟩ := open_int Try.underlying5 (hval 2 5 v2 rfl rfl) h2
  have en2 : 0 ≤ a2 ∧ a2 ≤ 255 := by have h := w2; simp [Lit.wf, IntKind.min, IntKind.max, IntKind.signed, IntKind.bits] at h; omega
  obtain ⟨X2, rfl⟩ : ∃ X : Nat, a2 = (X : Int) := ⟨a2.toNat, by omega⟩
  clear hA0 hval0
  try simp only [List.append_nil] at hW'
  refine (walk ⟨x00, x01, X0, x03, l0, L0⟩ A0 B0 len0 Len0 cap0 Cap0 hl0 hL0 a1 (by have h := w1; simp [Lit.wf, IntKind.min, IntKind.max, IntKind.signed, IntKind.bits] at h; omega) X2 (by omega) W (InM.mk' hll0 hLL0 (show X0 < 18446744073709551616 by omega) hst0 hST0)).mono fun e W' ⟨he, bel⟩ => ?_
  subst he
  exact ⟨_, rfl, _, _, _, [], _, [], hW', trodAll_mk1 (shut_bool Try.underlying4 _), (trodAll_cons_mk (Below.trod laidOut (by kernel_rfl) (of_decide_eq_true (by kernel_rfl)) k0 bel lt0) (trodAll_cons_mk (shut_int Try.underlying3 w1) (trodAll_cons_mk (shut_int Try.underlying5 w2) trodAll_mk0))), rfl, Below.frame bel _, fun h => by cases h⟩

theorem proved : Rows.ElfHeadsSaid :=
  OpenClaim.holds_of_wide 8 Try.f8 rfl rfl rfl rfl rfl rfl rfl ⟨rfl, rfl, rfl, rfl, rfl⟩ rfl rfl rfl rfl rfl (by kernel_rfl) Try.func8 (by kernel_rfl)
    (of_decide_eq_true (by kernel_rfl)) (by unfold Func.isWrapper; first | (rw [if_pos (by decide +kernel)]; kernel_rfl) | (rw [if_neg (by decide +kernel)]; exact ⟨rfl, rfl⟩))
    (fun os started H enc _ => lifted os started H enc)
end Go.Proofs.Ytciaebhkemdilaa.elfHeads
