/- ElfWrites returns true for every model, and changes nothing that was there; no condition. -/
import Derived.Test.YtciaebhkemdilaaElfQj
import Derived.Test.YtciaebhkemdilaaRows
import Derived.ProofKit
import Derived.ChangeMaps
import Derived.OpenShut
import Derived.ShutString
import Derived.ChangeOld
namespace Go.Proofs.Ytciaebhkemdilaa.elfWrites
open Go.ChangeMaps (open_string shut_string)
open Go.RowKit Go.ChangeShapes Go.WideShapes Go.ChangeAt
set_option linter.unusedVariables false
set_option maxRecDepth 100000 in
set_option maxHeartbeats 8000000 in
theorem walk (m : ElfR) (a b : Option Addr) (n k c d : Nat) (hn9 : n ≤ 9223372036854775807) (hk9 : k ≤ 9223372036854775807) (hca : a = none → c = 0) (hdb : b = none → d = 0) (w : World) (hin : InM w m a b n k) :
    Calls Try.prog 4 #[.agg #[.int .i64 m.typ, .int .i64 m.mac, .int .u64 m.ent, .int .i64 m.flg, .slice a n c, .slice b k d]] w fun e w' => e = .returned (.bool true) ∧ Bw w w' := by
  have HIN := hid hin
  have HCP := hid (fun W (h : InM W m a b n k) (hs : SmallM m) => copied_any m a b n k c d (by have := hs.seg; have := h.hn; omega) (by have := hs.sec; have := h.hk; omega) hca hdb W h)
  clear hca hdb
  have HSM := hid (fun W (h : InM W m a b n k) => small_any m a b n k c d h.hn h.hk hn9 hk9 W h.at_)
  have HM1 := hid (Has.new w 27 #[.int .i64 m.typ, .int .i64 m.mac, .int .u64 m.ent, .int .i64 m.flg, .slice a n c, .slice b k d])
  have HB1 := hid ((Bw.refl w).alloc (.cells #[.int .i64 m.typ, .int .i64 m.mac, .int .u64 m.ent, .int .i64 m.flg, .slice a n c, .slice b k d] 27))
  obtain ⟨mb, hmb⟩ : ∃ mb, w.heap.size = mb := ⟨_, rfl⟩
  rw [hmb] at HM1
  clear hin
  go_enter Try.func4, Try.ntmps4
  go_upto_region 1 with fail
  generalize w.alloc (.cells #[.int .i64 m.typ, .int .i64 m.mac, .int .u64 m.ent, .int .i64 m.flg, .slice a n c, .slice b k d] 27) = w1 at *
  clear hmb
  refine wp_region_list ?_
  refine wpList_load_mid rfl 27 (.tmp 1) rfl (mb) 0 rfl [.int .i64 m.typ, .int .i64 m.mac, .int .u64 m.ent, .int .i64 m.flg, .slice a n c, .slice b k d] _ HM1.out.range Try.underlying27 rfl inf_ElfW ?_
  go_wp2_with fail
  refine (HSM.out _ (HIN.out.bw HB1.out)).mono ?_
  rintro e w2 ⟨sb, rfl, hb2, hS⟩
  have HS := hid hS
  have HB2 := hid (HB1.out.trans hb2)
  have HM2 := hid (hb2.has HM1.out)
  clear hb2 hS HM1 HB1 HSM
  cases sb with
  | false =>
    go_wp2_with fail
    refine (live_any _).mono ?_
    rintro e wl ⟨rfl, hbl⟩
    have HBL := hid ((HB2.out).trans hbl)
    clear hbl
    go_wp2
    go_returns
    exact ⟨rfl, HBL.out⟩
  | true =>
    have HSS := hid (HS.out rfl)
    clear HS
    go_upto_region 3 with fail
    refine wp_region_list ?_
    refine wpList_load_mid rfl 27 (.tmp 1) rfl (mb) 0 rfl [.int .i64 m.typ, .int .i64 m.mac, .int .u64 m.ent, .int .i64 m.flg, .slice a n c, .slice b k d] _ HM2.out.range Try.underlying27 rfl inf_ElfW ?_
    go_wp2_with fail
    refine (HCP.out _ (HIN.out.bw HB2.out) HSS.out).mono ?_
    rintro e w3 ⟨a2, c2, b2, d2, rfl, hb3, hat⟩
    have HB3 := hid ((HB2.out.trans hb3).alloc (.cells #[.int .i64 m.typ, .int .i64 m.mac, .int .u64 m.ent, .int .i64 m.flg, .slice a2 n c2, .slice b2 k d2] 27))
    have HM3 := hid ((hb3.has HM2.out).alloc (.cells #[.int .i64 m.typ, .int .i64 m.mac, .int .u64 m.ent, .int .i64 m.flg, .slice a2 n c2, .slice b2 k d2] 27))
    have HN3 := hid (Has.new w3 27 #[.int .i64 m.typ, .int .i64 m.mac, .int .u64 m.ent, .int .i64 m.flg, .slice a2 n c2, .slice b2 k d2])
    have HI3 := hid (show InM (w3.alloc (.cells #[.int .i64 m.typ, .int .i64 m.mac, .int .u64 m.ent, .int .i64 m.flg, .slice a2 n c2, .slice b2 k d2] 27)) m a2 b2 n k from ⟨HIN.out.hn, HIN.out.hk, HIN.out.ent, hat.bw ((Bw.refl w3).alloc _), HIN.out.seg, HIN.out.sec⟩)
    obtain ⟨nb, hnb⟩ : ∃ nb, w3.heap.size = nb := ⟨_, rfl⟩
    rw [hnb] at HN3
    clear hb3 hat HB2 HM2 HCP
    go_upto_region 4 with fail
    generalize w3.alloc (.cells #[.int .i64 m.typ, .int .i64 m.mac, .int .u64 m.ent, .int .i64 m.flg, .slice a2 n c2, .slice b2 k d2] 27) = w4 at *
    clear hnb
    refine wp_region_list ?_
    refine wpList_load_mid rfl 27 (.tmp 3) rfl (nb) 0 rfl [.int .i64 m.typ, .int .i64 m.mac, .int .u64 m.ent, .int .i64 m.flg, .slice a2 n c2, .slice b2 k d2] _ HN3.out.range Try.underlying27 rfl inf_ElfW ?_
    go_wp2_with fail
    refine (write_in HI3.out HSS.out).mono ?_
    rintro e w5 ⟨hb5, hq⟩
    have HQ5 := hid hq
    obtain ⟨X, E, hxe, hxq⟩ : ∃ (X : ByteArray) (E : Int), e = .returned (.tuple #[.string X, .int .i64 E]) ∧ (∀ e2 w2 w3, DWQ m w2 e2 w3 → Bw w2 w3 ∧ e2 = .returned (.tuple #[.string X, .int .i64 E])) := by
      rcases hq with ⟨hv, rfl⟩ | ⟨hv, rfl⟩
      · refine ⟨_, _, rfl, fun e2 w2 w3 h => ?_⟩
        obtain ⟨h1, ⟨_, h2⟩ | ⟨h2, _⟩⟩ := h
        · exact ⟨h1, h2⟩
        · rw [hv] at h2; cases h2
      · refine ⟨_, _, rfl, fun e2 w2 w3 h => ?_⟩
        obtain ⟨h1, ⟨h2, _⟩ | ⟨_, h2⟩⟩ := h
        · rw [hv] at h2; cases h2
        · exact ⟨h1, h2⟩
    subst hxe
    have HXQ := hid hxq
    have HB5 := hid (HB3.out.trans hb5)
    have HM5 := hid (hb5.has HM3.out)
    have HN5 := hid (hb5.has HN3.out)
    have HI5 := hid (HI3.out.bw hb5)
    clear hb5 hq hxq HQ5 HB3 HM3 HN3 HI3
    go_upto_region 5 with fail
    refine wp_region_list ?_
    refine wpList_load_mid rfl 27 (.tmp 1) rfl (mb) 0 rfl [.int .i64 m.typ, .int .i64 m.mac, .int .u64 m.ent, .int .i64 m.flg, .slice a n c, .slice b k d] _ HM5.out.range Try.underlying27 rfl inf_ElfW ?_
    go_wp2_with fail
    refine (dwrite_any m a b n k c d HSS.out _ (HIN.out.bw HB5.out)).mono ?_
    rintro e w6 hq6
    obtain ⟨hb6, rfl⟩ := HXQ.out _ _ _ hq6
    have HB6 := hid (HB5.out.trans hb6)
    have HM6 := hid (hb6.has HM5.out)
    have HN6 := hid (hb6.has HN5.out)
    have HI6 := hid (HI5.out.bw hb6)
    have HSA := hid (fun W (h1 : ElfAt W m a2 b2) (h2 : ElfAt W m a b) => sameM_eq m a2 b2 a b n k c2 d2 c d HIN.out.hn HIN.out.hk (by have := HSS.out.seg; have := HIN.out.hn; omega) (by have := HSS.out.sec; have := HIN.out.hk; omega) W h1 h2)
    clear hq6 hb6 HB5 HM5 HN5 HI5
    obtain ⟨x0, x1, x2, x3, x4, x5⟩ := seven HN6.out
    obtain ⟨y0, y1, y2, y3, y4, y5⟩ := seven HM6.out
    go_wp2_with fail
    refine (HSA.out _ HI6.out.at_ (HIN.out.bw HB6.out).at_).mono ?_
    rintro e w8 ⟨rfl, hb8⟩
    have HB8 := hid (HB6.out.trans hb8)
    clear x0 x1 x2 x3 x4 x5 y0 y1 y2 y3 y4 y5 hb8 HB6 HN6 HM6 HI6
    go_wp2_with fail
    refine (live_any _).mono ?_
    rintro e wl ⟨rfl, hbl⟩
    have HBL := hid ((HB8.out).trans hbl)
    clear hbl
    go_wp2
    go_returns
    exact ⟨rfl, HBL.out⟩

/-! The frame: from the walk to the statement. -/
theorem own : ownKnob Try.prog.godebug = none := by kernel_rfl
theorem laidOut : laidOutB Try.prog = true := by kernel_rfl
set_option maxRecDepth 100000 in
theorem lifted (os : Os) (started : os.Started) (H : Type) (enc : TypeId × Value → H) :
    ReturnsInHanded {} Try.checked os 4 .any (Rows.elfWritesSpec.pre6 enc Try.prog Try.f4 Rows.elfWritesRow.domain false) (Rows.elfWritesSpec.post enc Try.prog Try.f4 false true false false) := by
  refine returnsInHanded_of_change_sized (C := Try.checked) own started (by kernel_rfl) Try.func4
    (ChangeSpec.witness6 (enc := enc) (C := Try.checked) false ⟨#[], #[.agg #[.int .i64 0, .int .i64 0, .int .u64 0, .int .i64 0, .slice none 0 0, .slice none 0 0]], []⟩ 8 (by kernel_rfl) (by kernel_rfl) (by kernel_rfl) (by kernel_rfl)) ?_
  intro W base args ds gs before hval0 hW hcnd hsz0 _
  have hval : ∀ (j : Nat) t v, Try.f4.params[j]? = some t → args[j]? = some v → Value.okWide Try.prog W .any base t v := hval0
  have hW' := hW
  obtain ⟨p, q, hA0, hV, rfl, hfz, hnd⟩ := hW
  have hA : DataW.TrodAll enc Try.prog W 0 (fun _ => true) true Try.f4.params.toList args.toList ds p := hA0
  have hsz : (DataW.weightsEach Try.prog (Try.f4.params.toList ++ Rows.elfWritesSpec.plain.varTypes Try.prog) (ds ++ gs)).all (· ≤ reachBytes) = true := hsz0
  rw [Try.params4] at hA hval hsz
  obtain ⟨v0, vs0, d0, ds0, p0, q0, hargs, rfl, rfl, h0, r0⟩ := trodAll_cons hA
  obtain ⟨rfl, rfl, rfl⟩ := trodAll_nil r0
  obtain rfl : args = #[v0] := by cases args; simp_all
  obtain ⟨rfl, rfl⟩ := trodVars_none hV
  have k0 := h0
  have lt0 : ∀ x ∈ p0, x.block < W.heap.size := by obtain ⟨m, hm⟩ := k0; exact DataW.trod_lt m _ _ _ hm
  obtain ⟨cs0, fd0, rfl, hlen0, rfl, hdl0, hf0⟩ := open_struct Try.underlying27 (by kernel_rfl) (by kernel_rfl) (hval 0 27 v0 rfl rfl) h0
  obtain ⟨x00, c00, _, _⟩ := hf0.int 0 rfl Try.underlying3
  obtain ⟨x01, c01, _, _⟩ := hf0.int 1 rfl Try.underlying3
  obtain ⟨x02, c02, _, wf02⟩ := hf0.int 2 rfl Try.underlying23
  obtain ⟨x03, c03, _, _⟩ := hf0.int 3 rfl Try.underlying3
  obtain ⟨u0, y0, nn0, c04, _, t0⟩ := hf0 4 _ rfl
  obtain ⟨A0, len0, cap0, l0, he0, hl0, hll0, hst0⟩ := open_seg t0
  obtain ⟨U0, Y0, NN0, c05, _, T0⟩ := hf0 5 _ rfl
  obtain ⟨B0, Len0, Cap0, L0, hE0, hL0, hLL0, hST0⟩ := open_sec T0
  have nc0 := nil_seg t0 he0
  have nC0 := nil_sec T0 hE0
  subst he0 hE0
  obtain rfl := list6 hlen0 c00 c01 c02 c03 c04 c05
  have en0 : 0 ≤ x02 ∧ x02 ≤ 18446744073709551615 := by have h := wf02; simp [Lit.wf, IntKind.min, IntKind.max, IntKind.signed, IntKind.bits] at h; omega
  obtain ⟨X0, rfl⟩ : ∃ X : Nat, x02 = (X : Int) := ⟨x02.toNat, by omega⟩
  clear hA0 hval0
  try simp only [List.append_nil] at hW'
  refine (walk ⟨x00, x01, X0, x03, l0, L0⟩ A0 B0 len0 Len0 cap0 Cap0 hl0 hL0 nc0 nC0 W (InM.mk' hll0 hLL0 (show X0 < 18446744073709551616 by omega) hst0 hST0)).mono fun e W' ⟨he, bel⟩ => ?_
  subst he
  exact ⟨_, rfl, _, _, _, [], _, [], hW', trodAll_mk1 (shut_bool Try.underlying4 _), (trodAll_cons_mk (Below.trod laidOut (by kernel_rfl) (of_decide_eq_true (by kernel_rfl)) k0 bel lt0) trodAll_mk0), rfl, Below.frame bel _, fun h => by cases h⟩

theorem proved : Rows.ElfWritesSaid :=
  OpenClaim.holds_of_wide 4 Try.f4 rfl rfl rfl rfl rfl rfl rfl ⟨rfl, rfl, rfl, rfl, rfl⟩ rfl rfl rfl rfl rfl (by kernel_rfl) Try.func4 (by kernel_rfl)
    (of_decide_eq_true (by kernel_rfl)) (by unfold Func.isWrapper; first | (rw [if_pos (by decide +kernel)]; kernel_rfl) | (rw [if_neg (by decide +kernel)]; exact ⟨rfl, rfl⟩))
    (fun os started H enc _ => lifted os started H enc)
end Go.Proofs.Ytciaebhkemdilaa.elfWrites
