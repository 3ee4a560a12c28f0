/- RegionsFinds returns true for every list of spans and every byte, and changes nothing that was there; no condition. -/
import Derived.Test.YtemgdnloabefjaaRegQ
import Derived.Test.YtemgdnloabefjaaRegY
import Derived.Test.YtemgdnloabefjaaSpanKit
import Derived.StillTailTactics
import Derived.SizedLaws
import Derived.ProofKit
import Derived.OpenShut
import Derived.ShutString
import Derived.ChangeOld
namespace Go.Proofs.Ytemgdnloabefjaa.regionsFinds
open Go.RowKit Go.ChangeShapes Go.WideShapes Go.ChangeAt
set_option linter.unusedVariables false
theorem Both.start {w w1 : World} {g : Nat} (h : One w w1 g []) : Both w (w1.alloc (.cells #[.slice none 0 0, .slice none 0 0] 28)) g w1.heap.size [] [] := by
  obtain ⟨P, h1, h2, h3⟩ := h
  refine ⟨fun i => P i ∧ i < w1.heap.size, (h1.mono fun i hi hp => ⟨hp, hi⟩).bw ((Bw.refl w1).alloc _), ⟨_, _, Has.new w1 _ _, fun e => Nat.lt_irrefl _ e.2, ⟨World.ownsRow_nil _ _ _ _, fun b hb => by cases hb⟩, ⟨World.ownsRow_nil _ _ _ _, fun b hb => by cases hb⟩⟩, fun i hi => h2 i hi.1, h3.size, h3.alloc _⟩

set_option maxRecDepth 100000 in
set_option maxHeartbeats 4000000 in
theorem walk (a : Option Addr) (len cap : Nat) (hlen : len ≤ 9223372036854775807) (l : List SpR) (hll : Hid (l.length = len)) (at1 : Int) (w : World) (hst : SpansIn w a l) :
    Calls Try.prog 4 #[.slice a len cap, .int .i64 at1] w fun e w' => e = .returned (.bool true) ∧ Bw w w' := by
  have HL := hid live_any
  have HST := hid hst
  have A7 := hid (fun (W : World) => new_has W)
  clear hst
  go_enter Try.func4, Try.ntmps4
  go_wp2_with fail
  refine (A7.out _).mono ?_
  rintro e w1 ⟨g, rfl, hh, hg, hb⟩
  have H1 := hid (Both.start (One.start hh hg hb))
  clear hh hg hb
  obtain ⟨rg, hrg⟩ : ∃ rg, w1.heap.size = rg := ⟨_, rfl⟩
  rw [hrg] at H1
  go_wp2_with fail
  clear hrg
  go_loopw [7] (fun i wr => ∃ k : Nat, k ≤ len ∧ k ≤ 60 ∧ i = .int .i64 k ∧ Hid (∃ L, Rising L ∧ L.length ≤ k ∧ Both w wr g rg L L)) (fun i _ => 60 - (intOf i).toNat)
  case atStart => exact ⟨0, Nat.zero_le _, Nat.zero_le _, rfl, hid ⟨[], trivial, Nat.le_refl _, H1.out⟩⟩
  case round =>
    rename World => wr
    obtain ⟨k, hk, hk60, rfl, HB⟩ := hrel
    by_cases hlt : k < len
    · have hlti : (k : Int) < len := by omega
      by_cases h60 : k < 60
      · have h60i : (k : Int) < 60 := by omega
        obtain ⟨L, hR, hLk, hB⟩ := HB.out
        have HR := hid hR
        have HBB := hid hB
        have hkl : k < l.length := by rw [hll.out]; exact hlt
        obtain ⟨b, off, rfl, hbl, q0, q1⟩ := HST.out k hkl
        generalize l[k] = q at *
        have HQ0 := hid q0
        have HQ1 := hid q1
        have c0 := hB.low.cell q0
        have c1 := hB.low.cell q1
        have hw1 : IntKind.i64.wrap ((k : Int) + 1) = (k : Int) + 1 := by rw [IntKind.wrap_i64]; omega
        clear hB hR hkl q0 q1
        go_wp2_with fail
        refine wp_region_still_tail 13 (by kernel_rfl) (by kernel_rfl) ?_
        simp only [List.take_succ_cons, List.take_zero, List.drop_succ_cons, List.drop_zero]
        repeat still_step
        refine wpStill_nil ?_
        change wpList _ _ _ _ _ wr.drew
        have HB1 := hid (HBB.out.bw ((Bw.refl wr).drewN 1))
        go_wp2_with fail
        refine (both_add w g rg L L HR.out (by omega) _ _ _ _ HB1.out).mono ?_
        rintro e w2 ⟨rfl, hB2⟩
        have HB2 := hid hB2
        have d0 := hB2.low.cell HQ0.out
        have d1 := hB2.low.cell HQ1.out
        clear hB2 c0 c1
        go_wp2_with fail
        refine wp_region_still_tail 13 (by kernel_rfl) (by kernel_rfl) ?_
        simp only [List.take_succ_cons, List.take_zero, List.drop_succ_cons, List.drop_zero]
        repeat still_step
        refine wpStill_nil ?_
        change wpList _ _ _ _ _ w2.drew
        have HB3 := hid (HB2.out.bw ((Bw.refl w2).drewN 1))
        go_wp2_with fail
        refine (both_radd w g rg _ L HR.out (by omega) _ _ _ _ HB3.out).mono ?_
        rintro e w4 ⟨rfl, hB4⟩
        have HB4 := hid hB4
        clear hB4 d0 d1
        go_wp2
        go_roundw
        case rel => exact ⟨k + 1, by omega, by omega, by go_num, hid ⟨_, addL_rising HR.out _ _ _, Nat.le_trans (addL_len _ _ _ _) (by omega), HB4.out⟩⟩
        case measure => simp [intOf]; omega
      · have h60i : ¬ (k : Int) < 60 := by omega
        obtain ⟨L, hR, hLk, hB⟩ := HB.out
        have HF := hid (find_any g L hR (by omega) at1 wr hB.at)
        have HRF := hid (fun (W : World) (h : Bw wr W) => rfind_any rg L (by omega) at1 W (hB.bw h).ref)
        rw [(findV_eq hR at1).1, (findV_eq hR at1).2] at HF
        have HBL := hid hB.low
        clear hB hR
        generalize rfindV L at1 = fv at *
        generalize rfindB L at1 = fb at *
        go_wp2_with fail
        refine HF.out.mono ?_
        rintro e w2 ⟨rfl, hb⟩
        have HB2 := hid hb
        clear hb
        go_wp2_with fail
        refine (HRF.out _ HB2.out).mono ?_
        rintro e w3 ⟨rfl, z, hz⟩
        have HB3 : Hid (Bw w w3) := hid (by rw [hz]; exact (HBL.out.trans HB2.out).drewN z)
        clear hz
        go_wp2_with fail
        refine (HL.out _).mono ?_
        rintro e w4 ⟨rfl, hb4⟩
        have HB4 := hid (HB3.out.trans hb4)
        clear hb4
        go_wp2
        go_returns
        exact ⟨rfl, HB4.out⟩
    · have hlti : ¬ (k : Int) < len := by omega
      obtain ⟨L, hR, hLk, hB⟩ := HB.out
      have HF := hid (find_any g L hR (by omega) at1 wr hB.at)
      have HRF := hid (fun (W : World) (h : Bw wr W) => rfind_any rg L (by omega) at1 W (hB.bw h).ref)
      rw [(findV_eq hR at1).1, (findV_eq hR at1).2] at HF
      have HBL := hid hB.low
      clear hB hR
      generalize rfindV L at1 = fv at *
      generalize rfindB L at1 = fb at *
      go_wp2_with fail
      refine HF.out.mono ?_
      rintro e w2 ⟨rfl, hb⟩
      have HB2 := hid hb
      clear hb
      go_wp2_with fail
      refine (HRF.out _ HB2.out).mono ?_
      rintro e w3 ⟨rfl, z, hz⟩
      have HB3 : Hid (Bw w w3) := hid (by rw [hz]; exact (HBL.out.trans HB2.out).drewN z)
      clear hz
      go_wp2_with fail
      refine (HL.out _).mono ?_
      rintro e w4 ⟨rfl, hb4⟩
      have HB4 := hid (HB3.out.trans hb4)
      clear hb4
      go_wp2
      go_returns
      exact ⟨rfl, HB4.out⟩

/-! The frame: from the walk to the statement. -/
theorem own : ownKnob Try.prog.godebug = none := by kernel_rfl
theorem laidOut : laidOutB Try.prog = true := by kernel_rfl
set_option maxRecDepth 100000 in
theorem lifted (os : Os) (started : os.Started) (H : Type) (enc : TypeId × Value → H) :
    ReturnsInHanded {} Try.checked os 4 .any (Rows.regionsFindsSpec.pre6 enc Try.prog Try.f4 Rows.regionsFindsRow.domain false) (Rows.regionsFindsSpec.post enc Try.prog Try.f4 false true false false) := by
  refine returnsInHanded_of_change_sized (C := Try.checked) own started (by kernel_rfl) Try.func4
    (ChangeSpec.witness6 (enc := enc) (C := Try.checked) false ⟨#[], #[.slice none 0 0, .int .i64 0], []⟩ 8 (by kernel_rfl) (by kernel_rfl) (by kernel_rfl) (by kernel_rfl)) ?_
  intro W base args ds gs before hval0 hW hcnd hsz0 _
  have hval : ∀ (j : Nat) t v, Try.f4.params[j]? = some t → args[j]? = some v → Value.okWide Try.prog W .any base t v := hval0
  have hW' := hW
  obtain ⟨p, q, hA0, hV, rfl, hfz, hnd⟩ := hW
  have hA : DataW.TrodAll enc Try.prog W 0 (fun _ => true) true Try.f4.params.toList args.toList ds p := hA0
  have hsz : (DataW.weightsEach Try.prog (Try.f4.params.toList ++ Rows.regionsFindsSpec.plain.varTypes Try.prog) (ds ++ gs)).all (· ≤ reachBytes) = true := hsz0
  rw [Try.params4] at hA hval hsz
  obtain ⟨v0, vs0, d0, ds0, p0, q0, hargs, rfl, rfl, h0, r0⟩ := trodAll_cons hA
  obtain ⟨v1, vs1, d1, ds1, p1, q1, rfl, rfl, rfl, h1, r1⟩ := trodAll_cons r0
  obtain ⟨rfl, rfl, rfl⟩ := trodAll_nil r1
  obtain rfl : args = #[v0, v1] := by cases args; simp_all
  obtain ⟨rfl, rfl⟩ := trodVars_none hV
  have k0 := h0
  have lt0 : ∀ x ∈ p0, x.block < W.heap.size := by obtain ⟨m, hm⟩ := k0; exact DataW.trod_lt m _ _ _ hm
  obtain ⟨oa0, ol0, oc0, rfl⟩ := okWide_slice Try.underlying22 (hval 0 22 v0 rfl rfl)
  obtain ⟨m0, t0⟩ := h0
  obtain ⟨A0, len0, cap0, l0, he0, hl0, hll0, hlc0, hst0⟩ := open_spans t0
  obtain ⟨a1, rfl, rfl, rfl, w1⟩ := open_int Try.underlying3 (hval 1 3 v1 rfl rfl) h1
  rw [he0] at hW' k0 ⊢
  clear hA0 hval0
  try simp only [List.append_nil] at hW'
  refine (walk A0 len0 cap0 hl0 l0 hll0 a1 W hst0).mono fun e W' ⟨he, bel⟩ => ?_
  subst he
  exact ⟨_, rfl, _, _, _, [], _, [], hW', trodAll_mk1 (shut_bool Try.underlying4 _), (trodAll_cons_mk (Below.trod laidOut (by kernel_rfl) (of_decide_eq_true (by kernel_rfl)) k0 bel lt0) (trodAll_cons_mk (shut_int Try.underlying3 w1) trodAll_mk0)), rfl, Below.frame bel _, fun h => by cases h⟩

theorem proved : Rows.RegionsFindsSaid :=
  OpenClaim.holds_of_wide 4 Try.f4 rfl rfl rfl rfl rfl rfl rfl ⟨rfl, rfl, rfl, rfl, rfl⟩ rfl rfl rfl rfl rfl (by kernel_rfl) Try.func4 (by kernel_rfl)
    (of_decide_eq_true (by kernel_rfl)) (by unfold Func.isWrapper; first | (rw [if_pos (by decide +kernel)]; kernel_rfl) | (rw [if_neg (by decide +kernel)]; exact ⟨rfl, rfl⟩))
    (fun os started H enc _ => lifted os started H enc)
end Go.Proofs.Ytemgdnloabefjaa.regionsFinds
