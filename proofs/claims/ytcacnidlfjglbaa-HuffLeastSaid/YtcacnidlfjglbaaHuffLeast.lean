/- HuffLeast returns true for every list of ints and every int, and changes nothing that was there; no condition. -/
import Derived.Test.YtcacnidlfjglbaaLeaN
import Derived.Test.YtcacnidlfjglbaaLenN
import Derived.Test.YtcacnidlfjglbaaHufJ
import Derived.Test.YtcacnidlfjglbaaHufL0
import Derived.Test.YtcacnidlfjglbaaZsKit
import Derived.SizedLaws
import Derived.ProofKit
import Derived.OpenShut
import Derived.ShutString
import Derived.ChangeOld
namespace Go.Proofs.Ytcacnidlfjglbaa.huffLeast
open Go.RowKit Go.ChangeShapes Go.WideShapes Go.ChangeAt
set_option linter.unusedVariables false
set_option maxRecDepth 100000 in
set_option maxHeartbeats 8000000 in
theorem big1 (a : Option Addr) (len cap : Nat) (hA : a = none → cap = 0) (hb8 : len * 8 ≤ 140737488355328) (l : List Int) (hll : Hid (l.length = len)) (x : Int) (h : ¬ len ≤ 30) (w : World) :
    Calls Try.prog 3 #[.slice a len cap, .int .i64 x] w fun e w' => e = .returned (.bool true) ∧ Bw w w' := by
  have HL := hid live_any
  have t0 : decide ((30 : Int) < len) = true := decide_eq_true (by omega)
  clear h
  go_enter Try.func3, Try.ntmps3
  go_wp2_with fail
  refine (HL.out _).mono ?_
  rintro e w8 ⟨rfl, hb8'⟩
  have HB8 := hid hb8'
  clear hb8'
  go_wp2
  go_returns
  exact ⟨rfl, HB8.out⟩
set_option maxRecDepth 100000 in
set_option maxHeartbeats 8000000 in
theorem big2 (a : Option Addr) (len cap : Nat) (hA : a = none → cap = 0) (hb8 : len * 8 ≤ 140737488355328) (l : List Int) (hll : Hid (l.length = len)) (x : Int) (h : len ≤ 30) (h2 : ¬ x ≤ 8) (w : World) :
    Calls Try.prog 3 #[.slice a len cap, .int .i64 x] w fun e w' => e = .returned (.bool true) ∧ Bw w w' := by
  have HL := hid live_any
  have t0 : decide ((30 : Int) < len) = false := decide_eq_false (by omega)
  have t1 : decide (8 < x) = true := decide_eq_true (by omega)
  clear h h2
  go_enter Try.func3, Try.ntmps3
  go_wp2_with fail
  refine (HL.out _).mono ?_
  rintro e w8 ⟨rfl, hb8'⟩
  have HB8 := hid hb8'
  clear hb8'
  go_wp2
  go_returns
  exact ⟨rfl, HB8.out⟩
set_option maxRecDepth 100000 in
set_option maxHeartbeats 8000000 in
theorem small (a : Option Addr) (len cap : Nat) (hA : a = none → cap = 0) (hb8 : len * 8 ≤ 140737488355328) (l : List Int) (hll : Hid (l.length = len)) (h30 : len ≤ 30) (x : Int) (h8 : x ≤ 8) (w : World) (hst : ZsAt w a l) :
    Calls Try.prog 3 #[.slice a len cap, .int .i64 x] w fun e w' => e = .returned (.bool true) ∧ Bw w w' := by
  have HL := hid live_any
  have HST := hid hst
  have hls : len < 4611686018427387904 := by omega
  have t0 : decide ((30 : Int) < len) = false := decide_eq_false (by omega)
  have t1 : decide (8 < x) = false := decide_eq_false (by omega)
  have hdt : decide (l = l) = true := decide_eq_true rfl
  have HOF := hid (fun w2 h => often_any a len cap x l hll hls w2 h)
  have HSM := hid (fun ao ac w2 h1 h2 => ints_any ao a len ac len cap hls l l hll hll w2 h1 h2)
  rw [hdt] at HSM
  clear hdt
  cases hO : oftenB l x with
  | false =>
    have HBD := hid (fun ao ac w2 h => lengths_bad ao len ac x l hll hls hO w2 h)
    rw [hO] at HOF
    clear hst hO
    go_enter Try.func3, Try.ntmps3
    go_wp2_with (at_builtin; refine wpList_app_zs rfl _ _ rfl rfl rfl hA HST.out hll.out hb8 ?_; intro v' w1 hown hbw; obtain ⟨ao, ac, rfl⟩ := own_slice hown; have HO := hid (zs_own hown hll.out); have HB1 := hid hbw; clear hown hbw)
    refine (HBD.out ao ac _ HO.out).mono ?_
    rintro e w2 ⟨rfl, hb⟩
    have HB2 := hid hb
    clear hb
    go_wp2_with fail
    refine (HSM.out ao ac _ (HO.out.bw HB2.out) (HST.out.bw (HB1.out.trans HB2.out))).mono ?_
    rintro e w3 ⟨rfl, hb⟩
    have HB3 := hid (HB2.out.trans hb)
    clear hb
    go_wp2_with fail
    refine (HOF.out _ (HST.out.bw (HB1.out.trans HB3.out))).mono ?_
    rintro e w4 ⟨rfl, hb⟩
    have HB4 := hid (HB3.out.trans hb)
    clear hb
    go_wp2_with fail
    refine (HL.out _).mono ?_
    rintro e w8 ⟨rfl, hb8'⟩
    have HB8 := hid (HB1.out.trans (HB4.out.trans hb8'))
    clear hb8'
    go_wp2
    go_returns
    exact ⟨rfl, HB8.out⟩
  | true =>
    have hq := hO
    unfold oftenB at hq
    rw [Bool.and_eq_true, Bool.and_eq_true] at hq
    obtain ⟨q1, q2, q3⟩ := hq
    obtain ⟨m1, m2, h320⟩ := of_decide_eq_true q1
    have hp := of_decide_eq_true q3
    rw [hll.out] at h320 hp
    obtain ⟨most, rfl⟩ := Int.eq_ofNat_of_zero_le (show 0 ≤ x by omega)
    rw [Int.toNat_natCast] at hp
    have hm1 : 1 ≤ most := by omega
    have hm15 : most ≤ 15 := by omega
    have hm8 : most ≤ 8 := by omega
    have hall := List.all_eq_true.1 q2
    have HBD := hid (fun ao ac w2 h => lengths_any ao len ac most l hll h320 hall hm1 hm15 hp w2 h)
    rw [hO] at HOF
    have HOK := hid (many_ok hm1 hm15 hp)
    have HCK := hid (many_check h320 hm1 hm15 hp)
    have HALL := hid hall
    have HLE := hid (fun w2 h => least_any a len cap most l hll h30 hall hm1 hm8 w2 h)
    rw [least_is hll.out h320 hall hm1 hm15 hp] at HLE
    have HCB := hid (fun j (hj : j ≤ len) => coA_bound (l := l) (asg := manyF l len most) (fun s => by
      unfold ofN
      by_cases h : s < l.length
      · have hg : l.getD s 0 = l[s] := by simp [List.getD, h]
        have := (of_decide_eq_true (hall l[s] (List.getElem_mem h))).2
        rw [hg]; omega
      · have hg : l.getD s 0 = 0 := by simp [List.getD, h]
        rw [hg]; decide) j (fun s hs hn => by
        have h0 : 0 < l.getD s 0 := by unfold ofN at hn; omega
        have := ((many_ok hm1 hm15 hp).1 s (by omega) h0).2; omega))
    clear hst hO q1 q2 q3 hp hall
    go_enter Try.func3, Try.ntmps3
    go_wp2_with (at_builtin; refine wpList_app_zs rfl _ _ rfl rfl rfl hA HST.out hll.out hb8 ?_; intro v' w1 hown hbw; obtain ⟨ao, ac, rfl⟩ := own_slice hown; have HO := hid (zs_own hown hll.out); have HB1 := hid hbw; clear hown hbw)
    refine (HBD.out ao ac _ HO.out).mono ?_
    rintro e w2 ⟨rb, rfl, hrb, hc, hb⟩
    have HB2 := hid hb
    have HC2 := hid hc
    clear hb hc
    go_wp2_with fail
    refine (HSM.out ao ac _ (HO.out.bw HB2.out) (HST.out.bw (HB1.out.trans HB2.out))).mono ?_
    rintro e w3 ⟨rfl, hb⟩
    have HB3 := hid (HB2.out.trans hb)
    have HC3 := hid (hb.has HC2.out)
    clear hb
    go_wp2_with fail
    refine (HOF.out _ (HST.out.bw (HB1.out.trans HB3.out))).mono ?_
    rintro e w4 ⟨rfl, hb⟩
    have HB4 := hid (HB3.out.trans hb)
    have HC4 := hid (hb.has HC3.out)
    clear hb
    go_wp2_with fail
    refine (rcheck_any (some ⟨rb, 0, none⟩) len len ((List.range len).map fun s => ((manyF l len most s : Nat) : Int)) (hid (by simp)) _ (fun i hi => ?_)).mono ?_
    · have hi2 : i < len := by simpa using hi
      refine ⟨rb, 0, rfl, HC4.out.lt, ?_⟩
      rw [Nat.zero_add, HC4.out.cell i]
      simp [hi2]
    rintro e w5 ⟨rfl, hb⟩
    have HB5 := hid (HB1.out.trans (HB4.out.trans hb))
    have HC5 := hid (hb.has HC4.out)
    clear hb
    rw [HCK.out]
    go_wp2_with fail
    go_loopw [8, 9] (fun vs i wr => ∃ j : Nat, j ≤ len ∧ i = .int .i64 j ∧ vs = .int .i64 ((coA l (manyF l len most) j : Nat) : Int) ∧ Bw w5 wr) (fun _ i _ => len - (intOf i).toNat)
    case atStart => exact ⟨0, Nat.zero_le _, rfl, rfl, Bw.refl _⟩
    case round =>
      obtain ⟨i, hi, rfl, rfl, hbw⟩ := hrel
      rename World => wr
      have HBW := hid hbw
      by_cases hlt : i < len
      · have hlti : (i : Int) < len := by omega
        have hil : i < l.length := by rw [hll.out]; exact hlt
        obtain ⟨b, off, rfl, hbl, q0⟩ := HST.out i hil
        have hgi : l.getD i 0 = l[i] := by simp [List.getD, hil]
        have hoi := of_decide_eq_true (HALL.out l[i] (List.getElem_mem hil))
        obtain ⟨o, ho⟩ := Int.eq_ofNat_of_zero_le hoi.1
        have ho' : l[i] = ((o : Nat) : Int) := ho
        have hon : ofN l i = o := by unfold ofN; rw [hgi, ho']; exact Int.toNat_natCast o
        have ho40 : o ≤ 1099511627776 := by have := hoi.2; omega
        have x0 : wr.cell? ⟨b, off + i, none⟩ = some (.int .i64 ((o : Nat) : Int)) := by rw [← ho']; exact (World.cell?_of_block ((HB5.out.trans hbw).block b hbl)).trans q0
        have y0 : wr.cell? ⟨rb, i, none⟩ = some (.int .i64 (manyF l len most i : Nat)) := by
          have h1 := (hbw.has HC5.out).cell i
          simpa [hlt] using h1
        have hle : manyF l len most i ≤ most := by
          by_cases h : 0 < l.getD i 0
          · exact (HOK.out.1 i hlt h).2
          · rw [HOK.out.2.1 i (fun hh => h hh.2)]; omega
        have hz : manyF l len most i = 0 ↔ o = 0 := by
          by_cases h : 0 < l.getD i 0
          · have := (HOK.out.1 i hlt h).1
            rw [hgi, ho'] at h
            constructor <;> intro <;> omega
          · have h0 := HOK.out.2.1 i (fun hh => h hh.2)
            rw [hgi, ho'] at h
            rw [h0]
            constructor <;> intro <;> omega
        have HSU := hid (show coA l (manyF l len most) (i + 1) = coA l (manyF l len most) i + o * manyF l len most i by rw [coA, hon])
        have hcb := HCB.out i hi
        generalize coA l (manyF l len most) i = sm at *
        generalize manyF l len most i = fi at *
        have hzb : ((((fi : Nat) : Int) == 0) != (((o : Nat) : Int) == 0)) = false := by
          by_cases h : o = 0
          · rw [hz.2 h, h]; rfl
          · have h' : ¬ fi = 0 := fun e => h (hz.1 e)
            rw [beq_eq_false_iff_ne.2 (show ((o : Nat) : Int) ≠ 0 by omega), beq_eq_false_iff_ne.2 (show ((fi : Nat) : Int) ≠ 0 by omega)]; rfl
        obtain ⟨pr, hpr⟩ : ∃ pr, fi * o = pr := ⟨_, rfl⟩
        have hpri : ((fi : Nat) : Int) * ((o : Nat) : Int) = (pr : Int) := by rw [← hpr, Int.natCast_mul]
        have hprb : pr ≤ 8 * 1099511627776 := by rw [← hpr]; exact Nat.mul_le_mul (by omega) ho40
        have HPR := hid (show o * fi = pr by rw [Nat.mul_comm]; exact hpr)
        have hlei : ((fi : Nat) : Int) ≤ most := by omega
        have hsm : sm ≤ 30 * 16492674416640 := Nat.le_trans hcb (Nat.mul_le_mul_right _ (by omega))
        clear hz hoi hgi hbw q0 hon ho ho' hpr hcb hil
        go_wp2_with fail
        go_quiet (fail)
        go_wp2_with fail
        · exfalso
          have hz2 : (!(((fi : Nat) : Int) == 0) == (((o : Nat) : Int) == 0)) = false := hzb
          rcases (by assumption : most < fi ∨ (!(((fi : Nat) : Int) == 0) == (((o : Nat) : Int) == 0)) = true) with h | h
          · omega
          · rw [hz2] at h; cases h
        go_quiet (fail)
        go_wp2
        go_roundw
        case rel => exact ⟨i + 1, by omega, by go_num, by rw [HSU.out, HPR.out]; go_num, HBW.out.drewN _⟩
        case measure => simp [intOf]; omega
      · have hni : ¬ (i : Int) < len := by omega
        obtain rfl : i = len := by omega
        clear hbw
        go_wp2_with fail
        refine (HLE.out _ (HST.out.bw (HB5.out.trans HBW.out))).mono ?_
        rintro e w7 ⟨rfl, hb⟩
        have HB7 := hid (HB5.out.trans (HBW.out.trans hb))
        clear hb
        go_wp2_with fail
        refine (HL.out _).mono ?_
        rintro e w8 ⟨rfl, hb8'⟩
        have HB8 := hid (HB7.out.trans hb8')
        clear hb8'
        go_wp2
        go_returns
        exact ⟨rfl, HB8.out⟩
theorem walk (a : Option Addr) (len cap : Nat) (hA : a = none → cap = 0) (hb8 : len * 8 ≤ 140737488355328) (l : List Int) (hll : Hid (l.length = len)) (x : Int) (hx : (Lit.int .i64 x).wf = true) (w : World) (hst : ZsAt w a l) :
    Calls Try.prog 3 #[.slice a len cap, .int .i64 x] w fun e w' => e = .returned (.bool true) ∧ Bw w w' := by
  by_cases h : len ≤ 30
  · by_cases h2 : x ≤ 8
    · exact small a len cap hA hb8 l hll h x h2 w hst
    · exact big2 a len cap hA hb8 l hll x h h2 w
  · exact big1 a len cap hA hb8 l hll x h w

/-! The frame: from the walk to the statement. -/
theorem own : ownKnob Try.prog.godebug = none := by kernel_rfl
theorem laidOut : laidOutB Try.prog = true := by kernel_rfl
set_option maxRecDepth 100000 in
theorem lifted (os : Os) (started : os.Started) (H : Type) (enc : TypeId × Value → H) :
    ReturnsInHanded {} Try.checked os 3 .any (Rows.huffLeastSpec.pre6 enc Try.prog Try.f3 Rows.huffLeastRow.domain false) (Rows.huffLeastSpec.post enc Try.prog Try.f3 false true false false) := by
  refine returnsInHanded_of_change_sized (C := Try.checked) own started (by kernel_rfl) Try.func3
    (ChangeSpec.witness6 (enc := enc) (C := Try.checked) false ⟨#[], #[.slice none 0 0, .int .i64 0], []⟩ 8 (by kernel_rfl) (by kernel_rfl) (by kernel_rfl) (by kernel_rfl)) ?_
  intro W base args ds gs before hval0 hW hcnd hsz0 _
  have hval : ∀ (j : Nat) t v, Try.f3.params[j]? = some t → args[j]? = some v → Value.okWide Try.prog W .any base t v := hval0
  have hW' := hW
  obtain ⟨p, q, hA0, hV, rfl, hfz, hnd⟩ := hW
  have hA : DataW.TrodAll enc Try.prog W 0 (fun _ => true) true Try.f3.params.toList args.toList ds p := hA0
  have hsz : (DataW.weightsEach Try.prog (Try.f3.params.toList ++ Rows.huffLeastSpec.plain.varTypes Try.prog) (ds ++ gs)).all (· ≤ reachBytes) = true := hsz0
  rw [Try.params3] at hA hval hsz
  obtain ⟨v0, vs0, d0, ds0, p0, q0, hargs, rfl, rfl, h0, r0⟩ := trodAll_cons hA
  obtain ⟨v1, vs1, d1, ds1, p1, q1, rfl, rfl, rfl, h1, r1⟩ := trodAll_cons r0
  obtain ⟨rfl, rfl, rfl⟩ := trodAll_nil r1
  obtain rfl : args = #[v0, v1] := by cases args; simp_all
  obtain ⟨rfl, rfl⟩ := trodVars_none hV
  have k0 := h0
  have lt0 : ∀ x ∈ p0, x.block < W.heap.size := by obtain ⟨m, hm⟩ := k0; exact DataW.trod_lt m _ _ _ hm
  obtain ⟨oa0, ol0, oc0, rfl⟩ := okWide_slice Try.underlying22 (hval 0 22 v0 rfl rfl)
  obtain ⟨m0, t0⟩ := h0
  obtain ⟨A0, len0, cap0, l0, he0, hl0, hll0, hN0, hst0⟩ := open_zs t0
  obtain ⟨a1, rfl, rfl, rfl, w1⟩ := open_int Try.underlying3 (hval 1 3 v1 rfl rfl) h1
  rw [he0] at hW' k0 t0 ⊢
  clear hA0 hval0
  try simp only [List.append_nil] at hW'
  refine (walk A0 len0 cap0 hN0 (zs_len hsz (j := 0) rfl rfl t0) l0 (hid hll0) a1 w1 W hst0).mono fun e W' ⟨he, bel⟩ => ?_
  subst he
  exact ⟨_, rfl, _, _, _, [], _, [], hW', trodAll_mk1 (shut_bool Try.underlying4 _), (trodAll_cons_mk (Below.trod laidOut (by kernel_rfl) (of_decide_eq_true (by kernel_rfl)) k0 bel lt0) (trodAll_cons_mk (shut_int Try.underlying3 w1) trodAll_mk0)), rfl, Below.frame bel _, fun h => by cases h⟩

theorem proved : Rows.HuffLeastSaid :=
  OpenClaim.holds_of_wide 3 Try.f3 rfl rfl rfl rfl rfl rfl rfl ⟨rfl, rfl, rfl, rfl, rfl⟩ rfl rfl rfl rfl rfl (by kernel_rfl) Try.func3 (by kernel_rfl)
    (of_decide_eq_true (by kernel_rfl)) (by unfold Func.isWrapper; first | (rw [if_pos (by decide +kernel)]; kernel_rfl) | (rw [if_neg (by decide +kernel)]; exact ⟨rfl, rfl⟩))
    (fun os started H enc _ => lifted os started H enc)
end Go.Proofs.Ytcacnidlfjglbaa.huffLeast
