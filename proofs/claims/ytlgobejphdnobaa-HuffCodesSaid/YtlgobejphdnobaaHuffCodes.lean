/- HuffCodes returns true for every list of ints, and changes nothing that was there; no condition. -/
import Derived.Test.YtlgobejphdnobaaHufL0
import Derived.Test.YtlgobejphdnobaaHufK
import Derived.Test.YtlgobejphdnobaaZsKit
import Derived.SizedLaws
import Derived.ProofKit
import Derived.OpenShut
import Derived.ShutString
import Derived.ChangeOld
namespace Go.Proofs.Ytlgobejphdnobaa.huffCodes
open Go.RowKit Go.ChangeShapes Go.WideShapes Go.ChangeAt
set_option linter.unusedVariables false
theorem codes_zs {l : List Int} {len b : Nat} {W : World} (h : Has W b 3 (cArr l len len)) : ZsAt W (some ⟨b, 0, none⟩) ((List.range len).map fun i => ((codeF l i : Nat) : Int)) := fun i hi => by
  have hi2 : i < len := by simpa using hi
  refine ⟨b, 0, rfl, h.lt, ?_⟩
  rw [Nat.zero_add, h.cell i, cArr_get l len len i hi2, if_pos hi2]
  simp

set_option maxRecDepth 100000 in
set_option maxHeartbeats 8000000 in
theorem walk (a : Option Addr) (len cap : Nat) (hA : a = none → cap = 0) (hb8 : len * 8 ≤ 140737488355328) (l : List Int) (hll : Hid (l.length = len)) (w : World) (hst : ZsAt w a l) :
    Calls Try.prog 3 #[.slice a len cap] w fun e w' => e = .returned (.bool true) ∧ Bw w w' := by
  have HL := hid live_any
  have HST := hid hst
  have hls : len < 4611686018427387904 := by omega
  clear hst
  go_enter Try.func3, Try.ntmps3
  go_wp2_with (at_builtin; refine wpList_app_zs rfl _ _ rfl rfl rfl hA HST.out hll.out hb8 ?_; intro v' w1 hown hbw; obtain ⟨ao, ac, rfl⟩ := own_slice hown; have HO := hid (zs_own hown hll.out); have HB1 := hid hbw; clear hown hbw)
  by_cases hE : checkE l = 0
  · refine (codes_ok ao len ac l hll hE w1 HO.out).mono ?_
    rintro e w2 ⟨rb, rfl, hrb, hc, hb⟩
    have HB2 := hid hb
    have HC2 := hid hc
    clear hb hc
    go_wp2_with fail
    refine (rcodes_ok a len cap l hll hE w2 (HST.out.bw (HB1.out.trans HB2.out))).mono ?_
    rintro e w3 ⟨rb3, rfl, hrb3, hc, hb⟩
    have HB3 := hid (HB2.out.trans hb)
    have HC3 := hid hc
    have HC4 := hid (hb.has HC2.out)
    clear hb hc
    go_wp2_with fail
    refine (ints_any (some ⟨rb, 0, none⟩) (some ⟨rb3, 0, none⟩) len len len len hls _ _ (hid (by simp)) (hid (by simp)) _ (codes_zs HC4.out) (codes_zs HC3.out)).mono ?_
    rintro e w4 ⟨rfl, hb⟩
    have HB4 := hid (HB3.out.trans hb)
    have hdt : decide (((List.range len).map fun i => ((codeF l i : Nat) : Int)) = ((List.range len).map fun i => ((codeF l i : Nat) : Int))) = true := decide_eq_true rfl
    rw [hdt]
    clear hb hdt hE
    go_wp2_with fail
    refine (check_any ao len ac l hll _ (HO.out.bw HB4.out)).mono ?_
    rintro e w5 ⟨rfl, hb5⟩
    have HB5 := hid (HB4.out.trans hb5)
    clear hb5
    go_wp2_with fail
    refine (rcheck_any a len cap l hll _ (HST.out.bw (HB1.out.trans HB5.out))).mono ?_
    rintro e w6 ⟨rfl, hb6⟩
    have HB6 := hid (HB5.out.trans hb6)
    clear hb6
    have hce : (checkE l == checkE l) = true := beq_self_eq_true _
    go_wp2_with fail
    refine (ints_any ao a len ac len cap hls l l hll hll _ (HO.out.bw HB6.out) (HST.out.bw (HB1.out.trans HB6.out))).mono ?_
    rintro e w7 ⟨rfl, hb7⟩
    have HB7 := hid (HB6.out.trans hb7)
    have hdt : decide (l = l) = true := decide_eq_true rfl
    rw [hdt]
    clear hb7 hdt hce
    go_wp2_with fail
    refine (HL.out _).mono ?_
    rintro e w8 ⟨rfl, hb8'⟩
    have HB8 := hid (HB7.out.trans hb8')
    clear hb8'
    go_wp2
    go_returns
    exact ⟨rfl, HB1.out.trans HB8.out⟩
  · refine (codes_bad ao len ac l hll hE w1 HO.out).mono ?_
    rintro e w2 ⟨rfl, hb⟩
    have HB2 := hid hb
    clear hb
    go_wp2_with fail
    refine (rcodes_bad a len cap l hll hE w2 (HST.out.bw (HB1.out.trans HB2.out))).mono ?_
    rintro e w3 ⟨rfl, hb⟩
    have HB3 := hid (HB2.out.trans hb)
    have hce : (checkE l == checkE l) = true := beq_self_eq_true _
    clear hb
    go_wp2_with fail
    refine (ints_any none none 0 0 0 0 (by decide) [] [] (hid rfl) (hid rfl) _ (fun i hi => by simp at hi) (fun i hi => by simp at hi)).mono ?_
    rintro e w4 ⟨rfl, hb⟩
    have HB4 := hid (HB3.out.trans hb)
    have hdt : decide (([] : List Int) = []) = true := decide_eq_true rfl
    rw [hdt]
    clear hb hdt hE hce
    go_wp2_with fail
    refine (check_any ao len ac l hll _ (HO.out.bw HB4.out)).mono ?_
    rintro e w5 ⟨rfl, hb5⟩
    have HB5 := hid (HB4.out.trans hb5)
    clear hb5
    go_wp2_with fail
    refine (rcheck_any a len cap l hll _ (HST.out.bw (HB1.out.trans HB5.out))).mono ?_
    rintro e w6 ⟨rfl, hb6⟩
    have HB6 := hid (HB5.out.trans hb6)
    clear hb6
    have hce : (checkE l == checkE l) = true := beq_self_eq_true _
    go_wp2_with fail
    refine (ints_any ao a len ac len cap hls l l hll hll _ (HO.out.bw HB6.out) (HST.out.bw (HB1.out.trans HB6.out))).mono ?_
    rintro e w7 ⟨rfl, hb7⟩
    have HB7 := hid (HB6.out.trans hb7)
    have hdt : decide (l = l) = true := decide_eq_true rfl
    rw [hdt]
    clear hb7 hdt hce
    go_wp2_with fail
    refine (HL.out _).mono ?_
    rintro e w8 ⟨rfl, hb8'⟩
    have HB8 := hid (HB7.out.trans hb8')
    clear hb8'
    go_wp2
    go_returns
    exact ⟨rfl, HB1.out.trans HB8.out⟩

/-! The frame: from the walk to the statement. -/
theorem own : ownKnob Try.prog.godebug = none := by kernel_rfl
theorem laidOut : laidOutB Try.prog = true := by kernel_rfl
set_option maxRecDepth 100000 in
theorem lifted (os : Os) (started : os.Started) (H : Type) (enc : TypeId × Value → H) :
    ReturnsInHanded {} Try.checked os 3 .any (Rows.huffCodesSpec.pre6 enc Try.prog Try.f3 Rows.huffCodesRow.domain false) (Rows.huffCodesSpec.post enc Try.prog Try.f3 false true false false) := by
  refine returnsInHanded_of_change_sized (C := Try.checked) own started (by kernel_rfl) Try.func3
    (ChangeSpec.witness6 (enc := enc) (C := Try.checked) false ⟨#[], #[.slice none 0 0], []⟩ 8 (by kernel_rfl) (by kernel_rfl) (by kernel_rfl) (by kernel_rfl)) ?_
  intro W base args ds gs before hval0 hW hcnd hsz0 _
  have hval : ∀ (j : Nat) t v, Try.f3.params[j]? = some t → args[j]? = some v → Value.okWide Try.prog W .any base t v := hval0
  have hW' := hW
  obtain ⟨p, q, hA0, hV, rfl, hfz, hnd⟩ := hW
  have hA : DataW.TrodAll enc Try.prog W 0 (fun _ => true) true Try.f3.params.toList args.toList ds p := hA0
  have hsz : (DataW.weightsEach Try.prog (Try.f3.params.toList ++ Rows.huffCodesSpec.plain.varTypes Try.prog) (ds ++ gs)).all (· ≤ reachBytes) = true := hsz0
  rw [Try.params3] at hA hval hsz
  obtain ⟨v0, vs0, d0, ds0, p0, q0, hargs, rfl, rfl, h0, r0⟩ := trodAll_cons hA
  obtain ⟨rfl, rfl, rfl⟩ := trodAll_nil r0
  obtain rfl : args = #[v0] := by cases args; simp_all
  obtain ⟨rfl, rfl⟩ := trodVars_none hV
  have k0 := h0
  have lt0 : ∀ x ∈ p0, x.block < W.heap.size := by obtain ⟨m, hm⟩ := k0; exact DataW.trod_lt m _ _ _ hm
  obtain ⟨oa0, ol0, oc0, rfl⟩ := okWide_slice Try.underlying22 (hval 0 22 v0 rfl rfl)
  obtain ⟨m0, t0⟩ := h0
  obtain ⟨A0, len0, cap0, l0, he0, hl0, hll0, hN0, hst0⟩ := open_zs t0
  rw [he0] at hW' k0 t0 ⊢
  clear hA0 hval0
  try simp only [List.append_nil] at hW'
  refine (walk A0 len0 cap0 hN0 (zs_len hsz (j := 0) rfl rfl t0) l0 (hid hll0) W hst0).mono fun e W' ⟨he, bel⟩ => ?_
  subst he
  exact ⟨_, rfl, _, _, _, [], _, [], hW', trodAll_mk1 (shut_bool Try.underlying4 _), (trodAll_cons_mk (Below.trod laidOut (by kernel_rfl) (of_decide_eq_true (by kernel_rfl)) k0 bel lt0) trodAll_mk0), rfl, Below.frame bel _, fun h => by cases h⟩

theorem proved : Rows.HuffCodesSaid :=
  OpenClaim.holds_of_wide 3 Try.f3 rfl rfl rfl rfl rfl rfl rfl ⟨rfl, rfl, rfl, rfl, rfl⟩ rfl rfl rfl rfl rfl (by kernel_rfl) Try.func3 (by kernel_rfl)
    (of_decide_eq_true (by kernel_rfl)) (by unfold Func.isWrapper; first | (rw [if_pos (by decide +kernel)]; kernel_rfl) | (rw [if_neg (by decide +kernel)]; exact ⟨rfl, rfl⟩))
    (fun os started H enc _ => lifted os started H enc)
end Go.Proofs.Ytlgobejphdnobaa.huffCodes
