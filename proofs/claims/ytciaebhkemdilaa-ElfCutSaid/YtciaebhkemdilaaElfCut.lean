/- ElfCut returns true for every model and every int, and changes nothing that was there; no condition. -/
import Derived.Test.YtciaebhkemdilaaElfTg
import Derived.Test.YtciaebhkemdilaaRows
import Derived.ProofKit
import Derived.ChangeMaps
import Derived.OpenShut
import Derived.ShutString
import Derived.ChangeOld
namespace Go.Proofs.Ytciaebhkemdilaa.elfCut
open Go.ChangeMaps (open_string shut_string)
open Go.RowKit Go.ChangeShapes Go.WideShapes Go.ChangeAt
set_option linter.unusedVariables false
set_option maxRecDepth 100000 in
set_option maxHeartbeats 8000000 in
theorem walk (m : ElfR) (a b : Option Addr) (n k c d : Nat) (hn9 : n ≤ 9223372036854775807) (hk9 : k ≤ 9223372036854775807) (t : Int) (ht : -9223372036854775808 ≤ t ∧ t ≤ 9223372036854775807) (w : World) (hin : InM w m a b n k) :
    Calls Try.prog 7 #[.agg #[.int .i64 m.typ, .int .i64 m.mac, .int .u64 m.ent, .int .i64 m.flg, .slice a n c, .slice b k d], .int .i64 t] w fun e w' => e = .returned (.bool true) ∧ Bw w w' := by
  have HIN := hid hin
  have HSM := hid (fun W (h : InM W m a b n k) => small_any m a b n k c d h.hn h.hk hn9 hk9 W h.at_)
  have HM1 := hid (Has.new w 27 #[.int .i64 m.typ, .int .i64 m.mac, .int .u64 m.ent, .int .i64 m.flg, .slice a n c, .slice b k d])
  have HB1 := hid ((Bw.refl w).alloc (.cells #[.int .i64 m.typ, .int .i64 m.mac, .int .u64 m.ent, .int .i64 m.flg, .slice a n c, .slice b k d] 27))
  obtain ⟨mb, hmb⟩ : ∃ mb, w.heap.size = mb := ⟨_, rfl⟩
  rw [hmb] at HM1
  clear hin
  go_enter Try.func7, Try.ntmps7
  go_upto_region 1 with fail
  generalize w.alloc (.cells #[.int .i64 m.typ, .int .i64 m.mac, .int .u64 m.ent, .int .i64 m.flg, .slice a n c, .slice b k d] 27) = w1 at *
  clear hmb
  refine wp_region_list ?_
  refine wpList_load_mid rfl 27 (.tmp 2) rfl (mb) 0 rfl [.int .i64 m.typ, .int .i64 m.mac, .int .u64 m.ent, .int .i64 m.flg, .slice a n c, .slice b k d] _ HM1.out.range Try.underlying27 rfl inf_ElfW ?_
  go_wp2_with fail
  refine (HSM.out _ (HIN.out.bw HB1.out)).mono ?_
  rintro e w2 ⟨sb, rfl, hb2, hS⟩
  have HS := hid hS
  have HB2 := hid (HB1.out.trans hb2)
  have HM2 := hid (hb2.has HM1.out)
  clear hb2 hS HM1 HB1 HSM
  cases sb with
  | false =>
    go_wp2_with fail
    refine (live_any _).mono ?_
    rintro e wl ⟨rfl, hbl⟩
    have HBL := hid ((HB2.out).trans hbl)
    clear hbl
    go_wp2
    go_returns
    exact ⟨rfl, HBL.out⟩
  | true =>
    have HSS := hid (HS.out rfl)
    clear HS
    go_upto_region 3 with fail
    refine wp_region_list ?_
    refine wpList_load_mid rfl 27 (.tmp 2) rfl (mb) 0 rfl [.int .i64 m.typ, .int .i64 m.mac, .int .u64 m.ent, .int .i64 m.flg, .slice a n c, .slice b k d] _ HM2.out.range Try.underlying27 rfl inf_ElfW ?_
    go_wp2_with fail
    refine (write_in (HIN.out.bw HB2.out) HSS.out).mono ?_
    rintro e w3 ⟨hb3, hq⟩
    have HB3 := hid (HB2.out.trans hb3)
    have HM3 := hid (hb3.has HM2.out)
    clear hb3 HB2 HM2
    rcases hq with ⟨hv, rfl⟩ | ⟨hv, rfl⟩
    case inr =>
      go_wp2_with fail
      refine (live_any _).mono ?_
      rintro e wl ⟨rfl, hbl⟩
      have HBL := hid ((HB3.out).trans hbl)
      clear hbl
      go_wp2
      go_returns
      exact ⟨rfl, HBL.out⟩
    have HWR := hid (small_wr HIN.out HSS.out hv)
    have HSZ := hid (small_size HSS.out)
    obtain ⟨T, hT⟩ : ∃ T, writeT m = T := ⟨_, rfl⟩
    rw [hT] at HSZ ⊢
    have HT := hid hT
    have hT8 := HSZ.out
    by_cases h1 : t < 1
    · clear hT
      go_wp2_with fail
      refine (live_any _).mono ?_
      rintro e wl ⟨rfl, hbl⟩
      have HBL := hid ((HB3.out).trans hbl)
      clear hbl
      go_wp2
      go_returns
      exact ⟨rfl, HBL.out⟩
    by_cases h2 : (T.size : Int) < t
    · clear hT
      go_wp2_with fail
      refine (live_any _).mono ?_
      rintro e wl ⟨rfl, hbl⟩
      have HBL := hid ((HB3.out).trans hbl)
      clear hbl
      go_wp2
      go_returns
      exact ⟨rfl, HBL.out⟩
    obtain ⟨U, hU⟩ : ∃ U, T.extract 0 ((T.size : Int) - t).toNat = U := ⟨_, rfl⟩
    have HUU := hid hU
    have v1 : IntKind.i64.wrap ((T.size : Int) - t) = (T.size : Int) - t := IntWalk.i64_in _ (by omega)
    have hj0 : (T.size : Int) - t ≤ (T.size : Int) := by omega
    have hj1 : (0 : Int) ≤ (T.size : Int) - t := by omega
    have HE := hid (show readE U = 2 by rw [← hU, ← HT.out]; exact HWR.out.cut (by rw [HT.out]; omega))
    clear hT
    have hUz : U.size ≤ 100000000 := by rw [← hU]; simp; omega
    have hRB : readM U = zeroM := readM_bad (by rw [HE.out]; decide)
    have HRD := hid (fun W => read_in U hUz zeroM 2 hRB HE.out 0 0 rfl rfl W)
    unfold zeroM at HRD
    clear hU hRB hv
    go_wp2_with fail
    rw [HUU.out]
    refine (HRD.out _).mono ?_
    rintro e w4 ⟨a1, c1, b1, d1, rfl, hb4, -⟩
    have HB4 := hid (HB3.out.trans hb4)
    clear hb4
    have HB5 := hid (HB4.out.alloc (.cells #[.int .i64 0, .int .i64 0, .int .u64 0, .int .i64 0, .slice a1 0 c1, .slice b1 0 d1] 27))
    simp only at HB5 ⊢
    go_upto_region 7 with fail
    generalize w4.alloc _ = w5 at *
    go_wp2_with fail
    refine (live_any _).mono ?_
    rintro e wl ⟨rfl, hbl⟩
    have HBL := hid ((HB5.out).trans hbl)
    clear hbl
    go_wp2
    go_returns
    exact ⟨rfl, HBL.out⟩

/-! The frame: from the walk to the statement. -/
theorem own : ownKnob Try.prog.godebug = none := by kernel_rfl
theorem laidOut : laidOutB Try.prog = true := by kernel_rfl
set_option maxRecDepth 100000 in
theorem lifted (os : Os) (started : os.Started) (H : Type) (enc : TypeId × Value → H) :
    ReturnsInHanded {} Try.checked os 7 .any (Rows.elfCutSpec.pre6 enc Try.prog Try.f7 Rows.elfCutRow.domain false) (Rows.elfCutSpec.post enc Try.prog Try.f7 false true false false) := by
  refine returnsInHanded_of_change_sized (C := Try.checked) own started (by kernel_rfl) Try.func7
    (ChangeSpec.witness6 (enc := enc) (C := Try.checked) false ⟨#[], #[.agg #[.int .i64 0, .int .i64 0, .int .u64 0, .int .i64 0, .slice none 0 0, .slice none 0 0], .int .i64 0], []⟩ 8 (by kernel_rfl) (by kernel_rfl) (by kernel_rfl) (by kernel_rfl)) ?_
  intro W base args ds gs before hval0 hW hcnd hsz0 _
  have hval : ∀ (j : Nat) t v, Try.f7.params[j]? = some t → args[j]? = some v → Value.okWide Try.prog W .any base t v := hval0
  have hW' := hW
  obtain ⟨p, q, hA0, hV, rfl, hfz, hnd⟩ := hW
  have hA : DataW.TrodAll enc Try.prog W 0 (fun _ => true) true Try.f7.params.toList args.toList ds p := hA0
  have hsz : (DataW.weightsEach Try.prog (Try.f7.params.toList ++ Rows.elfCutSpec.plain.varTypes Try.prog) (ds ++ gs)).all (· ≤ reachBytes) = true := hsz0
  rw [Try.params7] at hA hval hsz
  obtain ⟨v0, vs0, d0, ds0, p0, q0, hargs, rfl, rfl, h0, r0⟩ := trodAll_cons hA
  obtain ⟨v1, vs1, d1, ds1, p1, q1, rfl, rfl, rfl, h1, r1⟩ := trodAll_cons r0
  obtain ⟨rfl, rfl, rfl⟩ := trodAll_nil r1
  obtain rfl : args = #[v0, v1] := by cases args; simp_all
  obtain ⟨rfl, rfl⟩ := trodVars_none hV
  have k0 := h0
  have lt0 : ∀ x ∈ p0, x.block < W.heap.size := by obtain ⟨m, hm⟩ := k0; exact DataW.trod_lt m _ _ _ hm
  obtain ⟨cs0, fd0, rfl, hlen0, rfl, hdl0, hf0⟩ := open_struct Try.underlying27 (by kernel_rfl) (by kernel_rfl) (hval 0 27 v0 rfl rfl) h0
  obtain ⟨x00, c00, _, _⟩ := hf0.int 0 rfl Try.underlying3
  obtain ⟨x01, c01, _, _⟩ := hf0.int 1 rfl Try.underlying3
  obtain ⟨x02, c02, _, wf02⟩ := hf0.int 2 rfl Try.underlying23
  obtain ⟨x03, c03, _, _⟩ := hf0.int 3 rfl Try.underlying3
  obtain ⟨u0, y0, nn0, c04, _, t0⟩ := hf0 4 _ rfl
  obtain ⟨A0, len0, cap0, l0, he0, hl0, hll0, hst0⟩ := open_seg t0
  obtain ⟨U0, Y0, NN0, c05, _, T0⟩ := hf0 5 _ rfl
  obtain ⟨B0, Len0, Cap0, L0, hE0, hL0, hLL0, hST0⟩ := open_sec T0
  subst he0 hE0
  obtain rfl := list6 hlen0 c00 c01 c02 c03 c04 c05
  have en0 : 0 ≤ x02 ∧ x02 ≤ 18446744073709551615 := by have h := wf02; simp [Lit.wf, IntKind.min, IntKind.max, IntKind.signed, IntKind.bits] at h; omega
  obtain ⟨X0, rfl⟩ : ∃ X : Nat, x02 = (X : Int) := ⟨x02.toNat, by omega⟩
  obtain ⟨a1, rfl, rfl, rfl, w1⟩ := open_int Try.underlying3 (hval 1 3 v1 rfl rfl) h1
  clear hA0 hval0
  try simp only [List.append_nil] at hW'
  refine (walk ⟨x00, x01, X0, x03, l0, L0⟩ A0 B0 len0 Len0 cap0 Cap0 hl0 hL0 a1 (by have h := w1; simp [Lit.wf, IntKind.min, IntKind.max, IntKind.signed, IntKind.bits] at h; omega) W (InM.mk' hll0 hLL0 (show X0 < 18446744073709551616 by omega) hst0 hST0)).mono fun e W' ⟨he, bel⟩ => ?_
  subst he
  exact ⟨_, rfl, _, _, _, [], _, [], hW', trodAll_mk1 (shut_bool Try.underlying4 _), (trodAll_cons_mk (Below.trod laidOut (by kernel_rfl) (of_decide_eq_true (by kernel_rfl)) k0 bel lt0) (trodAll_cons_mk (shut_int Try.underlying3 w1) trodAll_mk0)), rfl, Below.frame bel _, fun h => by cases h⟩

theorem proved : Rows.ElfCutSaid :=
  OpenClaim.holds_of_wide 7 Try.f7 rfl rfl rfl rfl rfl rfl rfl ⟨rfl, rfl, rfl, rfl, rfl⟩ rfl rfl rfl rfl rfl (by kernel_rfl) Try.func7 (by kernel_rfl)
    (of_decide_eq_true (by kernel_rfl)) (by unfold Func.isWrapper; first | (rw [if_pos (by decide +kernel)]; kernel_rfl) | (rw [if_neg (by decide +kernel)]; exact ⟨rfl, rfl⟩))
    (fun os started H enc _ => lifted os started H enc)
end Go.Proofs.Ytciaebhkemdilaa.elfCut
