/- RegionsAdds returns true for every list of spans and every span, and changes nothing that was there; no condition. -/
import Derived.Test.YtemgdnloabefjaaRegQ
import Derived.Test.YtemgdnloabefjaaRegY
import Derived.Test.YtemgdnloabefjaaSpanKit
import Derived.StillTailTactics
import Derived.SizedLaws
import Derived.Test.YtemgdnloabefjaaRegPk
import Derived.Deep.RegionHeld3
import Derived.ProofKit
import Derived.OpenShut
import Derived.ShutString
import Derived.ChangeOld
namespace Go.Proofs.Ytemgdnloabefjaa.regionsAdds
open Go.RowKit Go.ChangeShapes Go.WideShapes Go.ChangeAt
set_option linter.unusedVariables false
theorem Both.start {w w1 : World} {g : Nat} (h : One w w1 g []) : Both w (w1.alloc (.cells #[.slice none 0 0, .slice none 0 0] 28)) g w1.heap.size [] [] := by
  obtain ⟨P, h1, h2, h3⟩ := h
  refine ⟨fun i => P i ∧ i < w1.heap.size, (h1.mono fun i hi hp => ⟨hp, hi⟩).bw ((Bw.refl w1).alloc _), ⟨_, _, Has.new w1 _ _, fun e => Nat.lt_irrefl _ e.2, ⟨World.ownsRow_nil _ _ _ _, fun b hb => by cases hb⟩, ⟨World.ownsRow_nil _ _ _ _, fun b hb => by cases hb⟩⟩, fun i hi => h2 i hi.1, h3.size, h3.alloc _⟩
theorem ownB {w w' : World} (h : Bw w w') {B : Nat} {e : TypeId} {size n : Nat} {v : Value} {xs : List Value} (k : w.ownsRow B e size v n xs) : w'.ownsRow B e size v n xs := own_keep k fun b hb => h.block b (own_ltJ k hb)

set_option maxRecDepth 100000 in
set_option maxHeartbeats 8000000 in
theorem walk (a : Option Addr) (len cap : Nat) (hlen : len ≤ 9223372036854775807) (l : List SpR) (hll : Hid (l.length = len)) (lo hi : Int) (w : World) (hst : SpansIn w a l) :
    Calls Try.prog 3 #[.slice a len cap, .int .i64 lo, .int .i64 hi] w fun e w' => e = .returned (.bool true) ∧ Bw w w' := by
  have HL := hid live_any
  have HST := hid hst
  have A7 := hid (fun (W : World) => new_has W)
  clear hst
  go_enter Try.func3, Try.ntmps3
  go_wp2_with fail
  refine (A7.out _).mono ?_
  rintro e w1 ⟨g, rfl, hh, hg, hb⟩
  have H1 := hid (Both.start (One.start hh hg hb))
  clear hh hg hb
  obtain ⟨rg, hrg⟩ : ∃ rg, w1.heap.size = rg := ⟨_, rfl⟩
  rw [hrg] at H1
  go_wp2_with fail
  clear hrg
  go_loopw [9] (fun i wr => ∃ k : Nat, k ≤ len ∧ k ≤ 60 ∧ i = .int .i64 k ∧ Hid (∃ L, Rising L ∧ L.length ≤ k ∧ Both w wr g rg L L)) (fun i _ => 60 - (intOf i).toNat)
  case atStart => exact ⟨0, Nat.zero_le _, Nat.zero_le _, rfl, hid ⟨[], trivial, Nat.le_refl _, H1.out⟩⟩
  case round =>
    rename World => wr
    obtain ⟨k, hk, hk60, rfl, HB⟩ := hrel
    have hor : (k < len ∧ k < 60) ∨ (k < len ∧ ¬ k < 60) ∨ ¬ k < len := by omega
    rcases hor with ⟨hlt, h60⟩ | hend
    · have hlti : (k : Int) < len := by omega
      have h60i : (k : Int) < 60 := by omega
      obtain ⟨L, hR, hLk, hB⟩ := HB.out
      have HR := hid hR
      have HBB := hid hB
      have hkl : k < l.length := by rw [hll.out]; exact hlt
      obtain ⟨b, off, rfl, hbl, q0, q1⟩ := HST.out k hkl
      generalize l[k] = q at *
      have HQ0 := hid q0
      have HQ1 := hid q1
      have HCL := hid (fun (W : World) (h : Both w W g rg L L) => clash_any g L hR (by omega) q.lo q.hi W h.at)
      have HRC := hid (fun (W : World) (h : Both w W g rg L L) => rclash_any rg L (by omega) q.lo q.hi W h.ref)
      rw [← clash_eq hR] at HRC
      generalize clashB L q.lo q.hi = cb at *
      have HAD := hid (fun (W : World) (h : Both w W g rg L L) => both_add w g rg L L hR (by omega) q.lo q.hi (k : Int) W h)
      have HRA := hid (fun (W : World) (M : List PartR) (h : Both w W g rg M L) => both_radd w g rg M L hR (by omega) q.lo q.hi (k : Int) W h)
      have HNR := hid (addL_rising hR q.lo q.hi (k : Int))
      have HNL := hid (addL_len L q.lo q.hi (k : Int))
      generalize addE L q.lo q.hi = ea at *
      generalize addL L q.lo q.hi (k : Int) = L' at *
      have hcb : (cb != cb) = false := by cases cb <;> rfl
      have hea : (ea != ea) = false := by simp
      have HB1 := hid (hB.bw ((Bw.refl wr).drewN 1))
      have c0 : wr.drew.cell? ⟨b, off + k * 2, none⟩ = some (.int .i64 q.lo) := hB.low.cell q0
      have c1 : wr.drew.cell? ⟨b, off + k * 2 + 1, none⟩ = some (.int .i64 q.hi) := hB.low.cell q1
      clear hB hR hkl q0 q1 HB
      go_wp2_with fail
      go_region_held3 (fun W => W.cell? ⟨b, off + k * 2, none⟩ = some (.int .i64 q.lo) ∧ W.cell? ⟨b, off + k * 2 + 1, none⟩ = some (.int .i64 q.hi)) (first | exact ⟨c0, c1⟩ | exact ⟨d0, d1⟩ | exact ⟨f0, f1⟩ | exact ⟨g0, g1⟩ | exact ⟨h0, h1⟩ | exact ⟨by assumption, by assumption⟩)
        (first
          | (go_at_call 15; refine (HCL.out _ HB1.out).mono ?_; rintro e w2 ⟨rfl, hb⟩; have HB2 := hid (HB1.out.bw hb); have d0 := HB2.out.low.cell HQ0.out; have d1 := HB2.out.low.cell HQ1.out; clear hb)
          | (go_at_call 16; refine (HRC.out _ HB2.out).mono ?_; rintro e w3 ⟨rfl, z, hz⟩; have HB3 : Hid (Both w w3 g rg L L) := hid (by rw [hz]; exact HB2.out.bw ((Bw.refl w2).drewN z)); have f0 := HB3.out.low.cell HQ0.out; have f1 := HB3.out.low.cell HQ1.out; clear hz)
          | (go_at_call 17; refine (HAD.out _ HB3.out).mono ?_; rintro e w4 ⟨rfl, hb⟩; have HB4 := hid hb; have g0 := HB4.out.low.cell HQ0.out; have g1 := HB4.out.low.cell HQ1.out; clear hb)
          | (go_at_call 18; refine (HRA.out _ _ HB4.out).mono ?_; rintro e w5 ⟨rfl, hb⟩; have HB5 := hid hb; have h0 := HB5.out.low.cell HQ0.out; have h1 := HB5.out.low.cell HQ1.out; clear hb))
      all_goals
        go_wp2
        go_roundw
        case rel => exact ⟨k + 1, by omega, by omega, by go_num, hid ⟨_, HNR.out, Nat.le_trans HNL.out (by omega), HB5.out⟩⟩
        case measure => simp [intOf]; omega
    · have hcase : (¬ (k : Int) < len) ∨ ((k : Int) < len ∧ ¬ (k : Int) < 60) := by omega
      rcases hcase with hlti | ⟨hlti, h60i⟩
      all_goals
        obtain ⟨L, hR, hLk, hB⟩ := HB.out
        have hL60 : L.length ≤ 60 := by omega
        have HSM := hid (fun (W : World) (h : Both w W g rg L L) => sets_same g rg L (by omega) W h.at h.ref)
        have HCV := hid (fun (W : World) (h : Both w W g rg L L) => cov_any g L hR (by omega) lo hi W h.at)
        have HRV := hid (fun (W : World) (h : Both w W g rg L L) => rcov_any rg L (by omega) lo hi W h.ref)
        have HCL := hid (fun (W : World) (h : Both w W g rg L L) => clash_any g L hR (by omega) lo hi W h.at)
        have HRC := hid (fun (W : World) (h : Both w W g rg L L) => rclash_any rg L (by omega) lo hi W h.ref)
        rw [← clash_eq hR] at HRC
        have HGA := hid (fun (W : World) (h : Both w W g rg L L) => gaps_any g L hR (by omega) lo hi W h.at)
        have HRG := hid (fun (W : World) (h : Both w W g rg L L) => rgapsA_any rg L (by omega) lo hi W h.ref)
        have HBB := hid hB
        have hgl := gapsL_len L lo hi
        clear hB hR HB
        generalize rcovV L lo hi = cv at *
        generalize clashB L lo hi = cb at *
        generalize gapsL L lo hi = G at *
        go_wp2_with fail
        refine (HSM.out _ HBB.out).mono ?_
        rintro e w2 ⟨rfl, hb⟩
        have HB2 := hid (HBB.out.bw hb)
        clear hb
        go_wp2_with fail
        refine (HCV.out _ HB2.out).mono ?_
        rintro e w3 ⟨rfl, hb⟩
        have HB3 := hid (HB2.out.bw hb)
        clear hb
        go_wp2_with fail
        refine (HRV.out _ HB3.out).mono ?_
        rintro e w4 ⟨rfl, z, hz⟩
        have HB4 : Hid (Both w w4 g rg L L) := hid (by rw [hz]; exact HB3.out.bw ((Bw.refl w3).drewN z))
        clear hz
        go_wp2_with fail
        refine (HCL.out _ HB4.out).mono ?_
        rintro e w5 ⟨rfl, hb⟩
        have HB5 := hid (HB4.out.bw hb)
        clear hb
        go_wp2_with fail
        refine (HRC.out _ HB5.out).mono ?_
        rintro e w6 ⟨rfl, z, hz⟩
        have HB6 : Hid (Both w w6 g rg L L) := hid (by rw [hz]; exact HB5.out.bw ((Bw.refl w5).drewN z))
        clear hz
        go_wp2_with fail
        refine (HGA.out _ HB6.out).mono ?_
        rintro e w7 ⟨v, rfl, hown, hb⟩
        obtain ⟨vo, vc, rfl⟩ := own_slice hown
        have HW7 := hid hb
        have HB7 := hid (HB6.out.bw hb)
        have HO7 := hid hown
        clear hown hb
        go_wp2_with fail
        refine (HRG.out _ HB7.out).mono ?_
        rintro e w8 ⟨v, rfl, hown, hb⟩
        obtain ⟨vo2, vc2, rfl⟩ := own_slice hown
        have HW8 := hid (HW7.out.trans hb)
        have HO8 := hid (ownB hb HO7.out)
        have HP8 := hid hown
        clear hown hb
        obtain ⟨ng, hng⟩ : ∃ ng, G.length = ng := ⟨_, rfl⟩
        have HNG := hid hng
        rw [hng] at HO8 hgl ⊢
        clear hng
        have HS1 := hid (spans_own (l := G) (by rw [HNG.out]; exact own_low' HO8.out) : SpansAt w8 vo G)
        have HS2 := hid (spans_own (l := G) (own_low' HP8.out) : SpansAt w8 vo2 G)
        go_wp2_with fail
        refine (same_any vo vo2 ng vc vc2 (by omega) G HNG _ HS1.out HS2.out).mono ?_
        rintro e w9 ⟨rfl, z, hz⟩
        have HW9 : Hid (Bw w6 w9) := hid (by rw [hz]; exact HW8.out.drewN z)
        have HO9 : Hid (w9.ownsRow w6.heap.size 31 2 (.slice vo ng vc) ng (spanCells G)) := hid (by rw [hz]; exact ownB ((Bw.refl w8).drewN z) HO8.out)
        clear hz
        go_wp2_with fail
        go_loopw [12] (fun i wq => ∃ m : Nat, m ≤ ng ∧ i = .int .i64 m ∧ Hid (∃ xs, wq.ownsRow w6.heap.size 31 2 (.slice vo ng vc) ng xs) ∧ Bw w6 wq) (fun i _ => ng - (intOf i).toNat)
        case atStart => exact ⟨0, Nat.zero_le _, rfl, hid ⟨_, HO9.out⟩, HW9.out⟩
        case round =>
          rename World => wq
          obtain ⟨m, hm, rfl, HOX, hbq⟩ := hrel
          have HBQ := hid hbq
          clear hbq
          by_cases hlt3 : m < ng
          · have hlt3i : (m : Int) < ng := by omega
            obtain ⟨xs, hxs⟩ := HOX.out
            obtain ⟨rb, rcap, hrb⟩ := own_someB hxs (by omega)
            obtain ⟨rfl, rfl⟩ : vo = some ⟨rb, 0, none⟩ ∧ vc = rcap := by simpa using hrb
            obtain ⟨u, hu⟩ := own_is hxs (m * 2) (by omega)
            have hfz : wq.frozen? ⟨rb, m * 2, none⟩ = false := own_frozen hxs
            have HN2 := hid (own_setj hxs (m * 2) (by omega) (.int .i64 (-7)))
            have HGE := hid (own_ge hxs (b := rb) rfl)
            clear hxs hrb HOX
            go_wp2
            exact ⟨⟨m + 1, by omega, by go_num, hid ⟨_, HN2.out⟩, Below.setCell HBQ.out HGE.out _⟩, by simp [intOf]; omega⟩
          · have hlt3i : ¬ (m : Int) < ng := by omega
            have HBB9 := hid (HB6.out.bw HBQ.out)
            clear HOX
            go_wp2_with fail
            refine (HSM.out _ HBB9.out).mono ?_
            rintro e w10 ⟨rfl, hb⟩
            have HB10 := hid (HBB9.out.bw hb)
            clear hb
            go_wp2_with fail
            refine (HL.out _).mono ?_
            rintro e w11 ⟨rfl, hb⟩
            have HB11 := hid (HB10.out.bw hb)
            clear hb
            go_wp2
            go_returns
            exact ⟨rfl, HB11.out.low⟩

/-! The frame: from the walk to the statement. -/
theorem own : ownKnob Try.prog.godebug = none := by kernel_rfl
theorem laidOut : laidOutB Try.prog = true := by kernel_rfl
set_option maxRecDepth 100000 in
theorem lifted (os : Os) (started : os.Started) (H : Type) (enc : TypeId × Value → H) :
    ReturnsInHanded {} Try.checked os 3 .any (Rows.regionsAddsSpec.pre6 enc Try.prog Try.f3 Rows.regionsAddsRow.domain false) (Rows.regionsAddsSpec.post enc Try.prog Try.f3 false true false false) := by
  refine returnsInHanded_of_change_sized (C := Try.checked) own started (by kernel_rfl) Try.func3
    (ChangeSpec.witness6 (enc := enc) (C := Try.checked) false ⟨#[], #[.slice none 0 0, .int .i64 0, .int .i64 0], []⟩ 8 (by kernel_rfl) (by kernel_rfl) (by kernel_rfl) (by kernel_rfl)) ?_
  intro W base args ds gs before hval0 hW hcnd hsz0 _
  have hval : ∀ (j : Nat) t v, Try.f3.params[j]? = some t → args[j]? = some v → Value.okWide Try.prog W .any base t v := hval0
  have hW' := hW
  obtain ⟨p, q, hA0, hV, rfl, hfz, hnd⟩ := hW
  have hA : DataW.TrodAll enc Try.prog W 0 (fun _ => true) true Try.f3.params.toList args.toList ds p := hA0
  have hsz : (DataW.weightsEach Try.prog (Try.f3.params.toList ++ Rows.regionsAddsSpec.plain.varTypes Try.prog) (ds ++ gs)).all (· ≤ reachBytes) = true := hsz0
  rw [Try.params3] at hA hval hsz
  obtain ⟨v0, vs0, d0, ds0, p0, q0, hargs, rfl, rfl, h0, r0⟩ := trodAll_cons hA
  obtain ⟨v1, vs1, d1, ds1, p1, q1, rfl, rfl, rfl, h1, r1⟩ := trodAll_cons r0
  obtain ⟨v2, vs2, d2, ds2, p2, q2, rfl, rfl, rfl, h2, r2⟩ := trodAll_cons r1
  obtain ⟨rfl, rfl, rfl⟩ := trodAll_nil r2
  obtain rfl : args = #[v0, v1, v2] := by cases args; simp_all
  obtain ⟨rfl, rfl⟩ := trodVars_none hV
  have k0 := h0
  have lt0 : ∀ x ∈ p0, x.block < W.heap.size := by obtain ⟨m, hm⟩ := k0; exact DataW.trod_lt m _ _ _ hm
  obtain ⟨oa0, ol0, oc0, rfl⟩ := okWide_slice Try.underlying22 (hval 0 22 v0 rfl rfl)
  obtain ⟨m0, t0⟩ := h0
  obtain ⟨A0, len0, cap0, l0, he0, hl0, hll0, hlc0, hst0⟩ := open_spans t0
  obtain ⟨a1, rfl, rfl, rfl, w1⟩ := open_int Try.underlying3 (hval 1 3 v1 rfl rfl) h1
  obtain ⟨a2, rfl, rfl, rfl, w2⟩ := open_int Try.underlying3 (hval 2 3 v2 rfl rfl) h2
  rw [he0] at hW' k0 ⊢
  clear hA0 hval0
  try simp only [List.append_nil] at hW'
  refine (walk A0 len0 cap0 hl0 l0 hll0 a1 a2 W hst0).mono fun e W' ⟨he, bel⟩ => ?_
  subst he
  exact ⟨_, rfl, _, _, _, [], _, [], hW', trodAll_mk1 (shut_bool Try.underlying4 _), (trodAll_cons_mk (Below.trod laidOut (by kernel_rfl) (of_decide_eq_true (by kernel_rfl)) k0 bel lt0) (trodAll_cons_mk (shut_int Try.underlying3 w1) (trodAll_cons_mk (shut_int Try.underlying3 w2) trodAll_mk0))), rfl, Below.frame bel _, fun h => by cases h⟩

theorem proved : Rows.RegionsAddsSaid :=
  OpenClaim.holds_of_wide 3 Try.f3 rfl rfl rfl rfl rfl rfl rfl ⟨rfl, rfl, rfl, rfl, rfl⟩ rfl rfl rfl rfl rfl (by kernel_rfl) Try.func3 (by kernel_rfl)
    (of_decide_eq_true (by kernel_rfl)) (by unfold Func.isWrapper; first | (rw [if_pos (by decide +kernel)]; kernel_rfl) | (rw [if_neg (by decide +kernel)]; exact ⟨rfl, rfl⟩))
    (fun os started H enc _ => lifted os started H enc)
end Go.Proofs.Ytemgdnloabefjaa.regionsAdds
