/- SfntTurned returns true for every file that is written and every byte of its Data that is turned, and changes nothing that was there; no condition. -/
import Derived.Test.YtciaebhkemdilabSfS
import Derived.Test.YtciaebhkemdilabSfTb
import Derived.Test.YtciaebhkemdilabRows
import Derived.ProofKit
import Derived.ChangeMaps
import Derived.OpenShut
import Derived.ShutString
import Derived.ChangeOld
namespace Go.Proofs.Ytciaebhkemdilab.sfntTurned
open Go.ChangeMaps (open_string shut_string)
open Go.RowKit Go.ChangeShapes Go.WideShapes Go.ChangeAt
set_option linter.unusedVariables false
set_option maxRecDepth 100000 in
set_option maxHeartbeats 8000000 in
theorem walk (k : Nat) (hk : k < 4294967296) (A : Option Addr) (len cap : Nat) (hlen : len ≤ 9223372036854775807) (l : List ChkR) (hll : l.length = len) (t : Int) (ht0 : -9223372036854775808 ≤ t) (ht9 : t ≤ 9223372036854775807) (y : Nat) (hy : y < 256) (w : World) (hst : ChkAt w A l) :
    Calls Try.prog 5 #[.agg #[.int .u32 k, .slice A len cap, .int .i64 t, .int .u8 y]] w fun e w' => e = .returned (.bool true) ∧ Bw w w' := by
  have HST := hid hst
  have HSM := hid (fun W (h : ChkAt W A l) => small_any A len cap hlen l (hid hll) W h)
  have HWR := hid (fun W (h : ChkAt W A l) => swrite_any k hk A len cap hlen l (hid hll) W h)
  clear hst
  have HB1 := hid ((Bw.refl w).alloc (.cells #[.int .u32 k, .slice A len cap, .int .i64 t, .int .u8 y] 37))
  have HX1 := hid (Has.new w 37 #[.int .u32 k, .slice A len cap, .int .i64 t, .int .u8 y])
  obtain ⟨na, hna⟩ : ∃ na, w.heap.size = na := ⟨_, rfl⟩
  rw [hna] at HX1
  go_enter Try.func5, Try.ntmps5
  go_upto_region 1 with fail
  generalize w.alloc (.cells #[.int .u32 k, .slice A len cap, .int .i64 t, .int .u8 y] 37) = w1 at *
  have HT1 := hid (show ChkAt w1 A l from HST.out.below HB1.out)
  have x0 : w1.cell? ⟨na, 0, none⟩ = some (.int .u32 k) := HX1.out.cell 0
  have x1 : w1.cell? ⟨na, 1, none⟩ = some (.slice A len cap) := HX1.out.cell 1
  have x2 : w1.cell? ⟨na, 2, none⟩ = some (.int .i64 t) := HX1.out.cell 2
  have x3 : w1.cell? ⟨na, 3, none⟩ = some (.int .u8 y) := HX1.out.cell 3
  clear hna HST
  go_quiet (fail)
  go_wp2_with fail
  clear x0 x1 x2 x3
  have HD := hid (show ∀ n, Bw w (w1.drewN n) from fun n => HB1.out.drewN n)
  have HTD := hid (show ∀ n, ChkAt (w1.drewN n) A l from fun n => HT1.out.below ((Bw.refl w1).drewN n))
  refine (HSM.out _ (HTD.out _)).mono ?_
  rintro e w2 ⟨sb, rfl, hb2, hS⟩
  have HB2 := hid ((HD.out _).trans hb2)
  have HT2 := hid ((HTD.out _).below hb2)
  clear hb2 HSM HD HTD
  cases sb with
  | false =>
    clear hS HWR
    go_wp2_with fail
    refine (live_any _).mono ?_
    rintro e wl ⟨rfl, hbl⟩
    have HBL := hid ((HB2.out).trans hbl)
    clear hbl
    go_wp2
    go_returns
    exact ⟨rfl, HBL.out⟩
  | true =>
    have HS := hid (hS rfl)
    clear hS
    by_cases hq : y = 0
    · have hq1 : ((y : Int) == 0) = true := by rw [beq_iff_eq]; omega
      go_wp2_with fail
      refine (live_any _).mono ?_
      rintro e wl ⟨rfl, hbl⟩
      have HBL := hid ((HB2.out).trans hbl)
      clear hbl
      go_wp2
      go_returns
      exact ⟨rfl, HBL.out⟩
    have hq1 : ((y : Int) == 0) = false := by rw [beq_eq_false_iff_ne]; omega
    cases hok : writeOk l k with
    | false =>
      have hwp := writeP_no hok
      rw [hwp] at HWR
      clear hwp hok
      go_wp2_with fail
      refine (HWR.out _ HT2.out).mono ?_
      rintro e w3 ⟨rfl, hb3⟩
      have HB3 := hid (HB2.out.trans hb3)
      clear hb3
      go_wp2_with fail
      refine (live_any _).mono ?_
      rintro e wl ⟨rfl, hbl⟩
      have HBL := hid ((HB3.out).trans hbl)
      clear hbl
      go_wp2
      go_returns
      exact ⟨rfl, HBL.out⟩
    | true =>
      have hwp := writeP_yes hok
      rw [hwp] at HWR
      obtain ⟨hkd, hm⟩ := write_kind hok
      have hz := HS.out.size hm k
      have hn9 : len ≤ 1000 := by rw [← hll]; exact hm.few
      have hwz := writeT_size hm k
      rw [hll] at hwz
      have HTU := hid (fun (s : ByteArray) p a b c d e => turned (s := s) (p := p) hkd hm a b c d e)
      rw [hll] at HTU
      obtain ⟨T, hT⟩ : ∃ s, writeT l k = s := ⟨_, rfl⟩
      rw [hT] at HWR hz hwz HTU
      obtain ⟨n, hn⟩ : ∃ n, eAt len = n := ⟨_, rfl⟩
      rw [hn] at hwz HTU
      have w1' : IntKind.i64.wrap (16 * (len : Int)) = 16 * (len : Int) := IntWalk.i64_in _ (by omega)
      have w2' : IntKind.i64.wrap (12 + 16 * (len : Int)) = (n : Int) := by rw [← hn]; unfold eAt; rw [IntWalk.i64_in _ (by omega)]; omega
      have hn2 : n ≤ 20000 := by rw [← hn]; unfold eAt; omega
      clear hwp hok hT hn hkd hm hwz
      by_cases hle : T.size ≤ n
      · have hle1 : (T.size : Int) ≤ (n : Int) := by omega
        go_wp2_with fail
        refine (HWR.out _ HT2.out).mono ?_
        rintro e w3 ⟨rfl, hb3⟩
        have HB3 := hid (HB2.out.trans hb3)
        clear hb3
        go_wp2_with fail
        refine (live_any _).mono ?_
        rintro e wl ⟨rfl, hbl⟩
        have HBL := hid ((HB3.out).trans hbl)
        clear hbl
        go_wp2
        go_returns
        exact ⟨rfl, HBL.out⟩
      have hle1 : ¬ ((T.size : Int) ≤ (n : Int)) := by omega
      obtain ⟨u, hu, hu0⟩ : ∃ u : Nat, ((if t < 0 then -(t + 1) else t) : Int) = u ∧ (u : Int) ≤ 9223372036854775807 := by
        split
        · exact ⟨(-(t + 1)).toNat, by omega, by omega⟩
        · exact ⟨t.toNat, by omega, by omega⟩
      have v1 : t < 0 → IntKind.i64.wrap (t + 1) = t + 1 := fun h => IntWalk.i64_in _ (by omega)
      have v2 : t < 0 → IntKind.i64.wrap (-(t + 1)) = (u : Int) := fun h => by
        rw [if_pos h] at hu
        rw [IntWalk.i64_in _ (by omega)]; omega
      have v3 : ¬ t < 0 → t = (u : Int) := fun h => by rw [if_neg h] at hu; exact hu
      obtain ⟨dz, hdz⟩ : ∃ dz, T.size - n = dz := ⟨_, rfl⟩
      obtain ⟨r, hr⟩ : ∃ r, u % dz = r := ⟨_, rfl⟩
      have hrd : r < dz := by rw [← hr]; exact Nat.mod_lt _ (by omega)
      have v4 : (u : Int).tmod (dz : Int) = (r : Int) := by rw [Int.tmod_eq_emod_of_nonneg (by omega), ← hr]; exact (Int.natCast_emod u dz).symm
      have v5 : IntKind.i64.wrap ((T.size : Int) - (n : Int)) = (dz : Int) := by rw [IntWalk.i64_in _ (by omega)]; omega
      have hdz0 : ¬ ((dz : Int) = 0) := by omega
      obtain ⟨j, hj⟩ : ∃ j, n + r = j := ⟨_, rfl⟩
      have v6 : IntKind.i64.wrap ((n : Int) + (r : Int)) = (j : Int) := by rw [IntWalk.i64_in _ (by omega)]; omega
      have hx8 : bt T j ^^^ y < 256 := xor_lt8 (bt_lt T j) hy
      obtain ⟨x, hx⟩ : ∃ x, bt T j ^^^ y = x := ⟨_, rfl⟩
      have v7 : bits .xor .u8 ((bt T j : Nat) : Int) (y : Int) = (x : Int) := by rw [← hx]; exact u8_xor_nat _ _ (bt_lt T j) hy
      have hcx : (UInt8.ofNat x).toNat = x := by rw [UInt8.toNat_ofNat']; omega
      have hjT2 : j < T.size := by omega
      have hjT : (j : Int) < (T.size : Int) := by omega
      have HE := hid (HTU.out (putB T j (UInt8.ofNat x)) j (putB_size _ _ _) (by omega) (by rw [putB_size]; exact hjT2) (fun i hi => putB_other T i j _ hi) (by rw [putB_bt _ _ _ hjT2, hcx, ← hx]; exact xor_ne hq))
      have HCX := hid hcx
      have HPZ := hid (show (putB T j (UInt8.ofNat x)).size ≤ 100000000 by rw [putB_size]; omega)
      obtain ⟨z, hz2⟩ : ∃ z, bt T j = z := ⟨_, rfl⟩
      have HZ := hid hz2
      rw [hz2] at v7
      have HCV := hid (fun W => run_bytes_of_string (P := Try.prog) W 9 38 5 T Try.underlying9 Try.underlying38 Try.underlying5)
      have HRB := hid (fun S W (hS : S.size ≤ 100000000) => sread_any S (by omega) W)
      clear hu hdz hr hj hx hz2 hcx HTU
      go_wp2_with fail
      refine (HWR.out _ HT2.out).mono ?_
      rintro e w3 ⟨rfl, hb3⟩
      have HB3 := hid (HB2.out.trans hb3)
      clear hb3 HB2 HT2 HWR
      go_upto_region 10 with fail
      rotate_left
      obtain rfl := v3 (by omega)
      all_goals
        clear v1 v2 v3
      all_goals
        go_wp2_with fail
        rw [HCV.out]
        have HM5 := hid (RowM.made (e := 5) w3 w.heap.size T (by unfold maxLen; omega) HB3.out.size)
        have HB5a := hid (HB3.out.trans (((Bw.refl w3).drewN 1).alloc (.cells (bytesRow T (grownCap w3 T.size 0 5)) 5 ((bytesRow T (grownCap w3 T.size 0 5)).size, (bytesRow T (grownCap w3 T.size 0 5)).size + 1))))
        have HB5 : Hid (Bw w (w3.drew.alloc (.cells (bytesRow T (grownCap w3 T.size 0 5)) 5 ((bytesRow T (grownCap w3 T.size 0 5)).size, (bytesRow T (grownCap w3 T.size 0 5)).size + 1)))) := HB5a
        clear HB5a
        generalize (w3.drew.alloc (.cells (bytesRow T (grownCap w3 T.size 0 5)) 5 ((bytesRow T (grownCap w3 T.size 0 5)).size, (bytesRow T (grownCap w3 T.size 0 5)).size + 1))) = w5 at *
        generalize grownCap w3 T.size 0 5 = cap0 at *
        generalize w3.heap.size = g0 at *
        clear HCV
        obtain ⟨g5, cp5, hsl, hg5, hl5, hc5⟩ := HM5.out.slot (by omega)
        injection hsl with i1 _ i3
        injection i1 with i1
        injection i1 with i1
        subst i1 i3
        have k0 := (hc5 j hjT2).1
        have f0 := (hc5 j hjT2).2
        rw [HZ.out] at k0
        have HP := hid (HM5.out.put hjT2 (UInt8.ofNat x))
        rw [HCX.out] at HP
        have HBP := hid (show Bw w (w5.setCell ⟨g0, j, none⟩ (.int .u8 x)) from Below.setCell (p := ⟨g0, j, none⟩) HB5.out hg5 (.int .u8 x))
        clear hc5 hl5
        go_upto_region 13 with fail
        generalize w5.setCell ⟨g0, j, none⟩ (.int .u8 x) = w6 at *
        have HCB := hid (convM HP.out)
        have HRD := hid (fun W => HRB.out (putB T j (UInt8.ofNat x)) W HPZ.out)
        clear k0 f0 HP HM5 HB5 HRB
        go_wp2_with fail
        try rw [HCB.out]
        go_wp2_with fail
        refine (HRD.out _).mono ?_
        rintro e w7 ⟨hb7, a1, c1, rfl, -⟩
        have HB7 := hid (HBP.out.trans hb7)
        clear hb7
        rcases HE.out with hE | hE
        all_goals
          rw [hE]
          clear hE HE HRD
          go_wp2_with fail
          refine (live_any _).mono ?_
          rintro e wl ⟨rfl, hbl⟩
          have HBL := hid ((HB7.out).trans hbl)
          clear hbl
          go_wp2
          go_returns
          exact ⟨rfl, HBL.out⟩

/-! The frame: from the walk to the statement. -/
theorem own : ownKnob Try.prog.godebug = none := by kernel_rfl
theorem laidOut : laidOutB Try.prog = true := by kernel_rfl
set_option maxRecDepth 100000 in
theorem lifted (os : Os) (started : os.Started) (H : Type) (enc : TypeId × Value → H) :
    ReturnsInHanded {} Try.checked os 5 .any (Rows.sfntTurnedSpec.pre6 enc Try.prog Try.f5 Rows.sfntTurnedRow.domain false) (Rows.sfntTurnedSpec.post enc Try.prog Try.f5 false true false false) := by
  refine returnsInHanded_of_change_sized (C := Try.checked) own started (by kernel_rfl) Try.func5
    (ChangeSpec.witness6 (enc := enc) (C := Try.checked) false ⟨#[], #[.agg #[.int .u32 0, .slice none 0 0, .int .i64 0, .int .u8 0]], []⟩ 8 (by kernel_rfl) (by kernel_rfl) (by kernel_rfl) (by kernel_rfl)) ?_
  intro W base args ds gs before hval0 hW hcnd hsz0 _
  have hval : ∀ (j : Nat) t v, Try.f5.params[j]? = some t → args[j]? = some v → Value.okWide Try.prog W .any base t v := hval0
  have hW' := hW
  obtain ⟨p, q, hA0, hV, rfl, hfz, hnd⟩ := hW
  have hA : DataW.TrodAll enc Try.prog W 0 (fun _ => true) true Try.f5.params.toList args.toList ds p := hA0
  have hsz : (DataW.weightsEach Try.prog (Try.f5.params.toList ++ Rows.sfntTurnedSpec.plain.varTypes Try.prog) (ds ++ gs)).all (· ≤ reachBytes) = true := hsz0
  rw [Try.params5] at hA hval hsz
  obtain ⟨v0, vs0, d0, ds0, p0, q0, hargs, rfl, rfl, h0, r0⟩ := trodAll_cons hA
  obtain ⟨rfl, rfl, rfl⟩ := trodAll_nil r0
  obtain rfl : args = #[v0] := by cases args; simp_all
  obtain ⟨rfl, rfl⟩ := trodVars_none hV
  have k0 := h0
  have lt0 : ∀ x ∈ p0, x.block < W.heap.size := by obtain ⟨m, hm⟩ := k0; exact DataW.trod_lt m _ _ _ hm
  obtain ⟨cs0, fd0, rfl, hlen0, rfl, hdl0, hf0⟩ := open_struct Try.underlying37 (by kernel_rfl) (by kernel_rfl) (hval 0 37 v0 rfl rfl) h0
  obtain ⟨x00, c00, _, wf00⟩ := hf0.int 0 rfl Try.underlying22
  obtain ⟨x02, c02, _, wf02⟩ := hf0.int 2 rfl Try.underlying3
  obtain ⟨x03, c03, _, wf03⟩ := hf0.int 3 rfl Try.underlying5
  obtain ⟨u0, y0, nn0, c01, _, t0⟩ := hf0 1 _ rfl
  obtain ⟨A0, len0, cap0, l0, he0, hl0, hll0, hst0⟩ := open_chk t0
  subst he0
  obtain rfl := list4 hlen0 c00 c01 c02 c03
  have en0 : 0 ≤ x00 ∧ x00 ≤ 4294967295 := by have h := wf00; simp [Lit.wf, IntKind.min, IntKind.max, IntKind.signed, IntKind.bits] at h; omega
  obtain ⟨X0, rfl⟩ : ∃ X : Nat, x00 = (X : Int) := ⟨x00.toNat, by omega⟩
  have em0 : 0 ≤ x03 ∧ x03 ≤ 255 := by have h := wf03; simp [Lit.wf, IntKind.min, IntKind.max, IntKind.signed, IntKind.bits] at h; omega
  obtain ⟨M0, rfl⟩ : ∃ X : Nat, x03 = (X : Int) := ⟨x03.toNat, by omega⟩
  have ei0 : -9223372036854775808 ≤ x02 ∧ x02 ≤ 9223372036854775807 := by have h := wf02; simp [Lit.wf, IntKind.min, IntKind.max, IntKind.signed, IntKind.bits] at h; omega
  clear hA0 hval0
  try simp only [List.append_nil] at hW'
  refine (walk X0 (by omega) A0 len0 cap0 hl0 l0 hll0 x02 (by omega) (by omega) M0 (by omega) W hst0).mono fun e W' ⟨he, bel⟩ => ?_
  subst he
  exact ⟨_, rfl, _, _, _, [], _, [], hW', trodAll_mk1 (shut_bool Try.underlying4 _), (trodAll_cons_mk (Below.trod laidOut (by kernel_rfl) (of_decide_eq_true (by kernel_rfl)) k0 bel lt0) trodAll_mk0), rfl, Below.frame bel _, fun h => by cases h⟩

theorem proved : Rows.SfntTurnedSaid :=
  OpenClaim.holds_of_wide 5 Try.f5 rfl rfl rfl rfl rfl rfl rfl ⟨rfl, rfl, rfl, rfl, rfl⟩ rfl rfl rfl rfl rfl (by kernel_rfl) Try.func5 (by kernel_rfl)
    (of_decide_eq_true (by kernel_rfl)) (by unfold Func.isWrapper; first | (rw [if_pos (by decide +kernel)]; kernel_rfl) | (rw [if_neg (by decide +kernel)]; exact ⟨rfl, rfl⟩))
    (fun os started H enc _ => lifted os started H enc)
