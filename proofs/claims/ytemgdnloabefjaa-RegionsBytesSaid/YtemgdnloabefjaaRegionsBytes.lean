/- RegionsBytes returns true for every list of spans, and changes nothing that was there; no condition. -/
import Derived.Test.YtemgdnloabefjaaRegQ
import Derived.Test.YtemgdnloabefjaaRegY
import Derived.Test.YtemgdnloabefjaaSpanKit
import Derived.StillTailTactics
import Derived.SizedLaws
import Derived.Test.YtemgdnloabefjaaRegPl
import Derived.ProofKit
import Derived.OpenShut
import Derived.ShutString
import Derived.ChangeOld
namespace Go.Proofs.Ytemgdnloabefjaa.regionsBytes
open Go.RowKit Go.ChangeShapes Go.WideShapes Go.ChangeAt
set_option linter.unusedVariables false
/-- Where a set's spans come from. -/
def From (l : List SpR) (L : List PartR) : Prop := ∀ p ∈ L, ∃ (j : Nat) (q : SpR), l[j]? = some q ∧ p.x = (j : Int) + 1 ∧ (p.lo : Int) = q.lo ∧ (p.hi : Int) = q.hi
theorem From.add {l : List SpR} {L : List PartR} (h : From l L) {k : Nat} {q : SpR} (hq : l[k]? = some q) : From l (addL L q.lo q.hi ((k : Int) + 1)) := fun p hp => by
  rcases mem_addL hp with ⟨h1, h2, h3⟩ | hp
  · exact ⟨k, q, hq, h3, h1, h2⟩
  · exact h p hp

set_option maxRecDepth 100000 in
set_option maxHeartbeats 8000000 in
theorem walk (a : Option Addr) (len cap : Nat) (hlen : len ≤ 9223372036854775807) (l : List SpR) (hll : Hid (l.length = len)) (w : World) (hst : SpansIn w a l) :
    Calls Try.prog 7 #[.slice a len cap] w fun e w' => e = .returned (.bool true) ∧ Bw w w' := by
  have HL := hid live_any
  have HST := hid hst
  have A7 := hid (fun (W : World) => new_has W)
  clear hst
  go_enter Try.func7, Try.ntmps7
  go_wp2_with fail
  refine (A7.out _).mono ?_
  rintro e w1 ⟨g, rfl, hh, hg, hb⟩
  have H1 := hid (One.start hh hg hb)
  clear hh hg hb
  go_wp2_with fail
  go_loopw [4] (fun i wr => ∃ k : Nat, k ≤ len ∧ k ≤ 60 ∧ i = .int .i64 k ∧ Hid (∃ L, Rising L ∧ L.length ≤ k ∧ From l L ∧ One w wr g L)) (fun i _ => 60 - (intOf i).toNat)
  case atStart => exact ⟨0, Nat.zero_le _, Nat.zero_le _, rfl, hid ⟨[], trivial, Nat.le_refl _, (show From l [] from fun p hp => nomatch hp), H1.out⟩⟩
  case round =>
    rename World => wr
    obtain ⟨k, hk, hk60, rfl, HB⟩ := hrel
    have hor : (k < len ∧ k < 60) ∨ (k < len ∧ ¬ k < 60) ∨ ¬ k < len := by omega
    rcases hor with ⟨hlt, h60⟩ | hend
    · have hlti : (k : Int) < len := by omega
      have h60i : (k : Int) < 60 := by omega
      obtain ⟨L, hR, hLk, hI, hB⟩ := HB.out
      have HR := hid hR
      have HBB := hid hB
      have HII := hid hI
      have hkl : k < l.length := by rw [hll.out]; exact hlt
      obtain ⟨b, off, rfl, hbl, q0, q1⟩ := HST.out k hkl
      have HLQ := hid (List.getElem?_eq_getElem hkl)
      generalize l[k] = q at *
      have c0 := hB.low.cell q0
      have c1 := hB.low.cell q1
      have hw1 : IntKind.i64.wrap ((k : Int) + 1) = (k : Int) + 1 := by rw [IntKind.wrap_i64]; omega
      clear hB hR hkl q0 q1 hI
      go_wp2_with fail
      refine wp_region_still_tail 13 (by kernel_rfl) (by kernel_rfl) ?_
      simp only [List.take_succ_cons, List.take_zero, List.drop_succ_cons, List.drop_zero]
      repeat still_step
      refine wpStill_nil ?_
      change wpList _ _ _ _ _ wr.drew
      have HB1 := hid (HBB.out.bw ((Bw.refl wr).drewN 1))
      go_wp2_with fail
      refine (one_add w g L HR.out (by omega) _ _ _ _ HB1.out).mono ?_
      rintro e w2 ⟨rfl, hB2⟩
      have HB2 := hid hB2
      clear hB2 c0 c1
      go_wp2
      go_roundw
      case rel => exact ⟨k + 1, by omega, by omega, by go_num, hid ⟨_, addL_rising HR.out _ _ _, Nat.le_trans (addL_len _ _ _ _) (by omega), HII.out.add HLQ.out, HB2.out⟩⟩
      case measure => simp [intOf]; omega
    · have hcase : (¬ (k : Int) < len) ∨ ((k : Int) < len ∧ ¬ (k : Int) < 60) := by omega
      obtain ⟨L, hR, hLk, hI, hB⟩ := HB.out
      have hL60 : L.length ≤ 60 := by omega
      have HR := hid hR
      have HBB := hid hB
      have HII := hid hI
      clear hR hB hI HB hend hk60
      rcases hcase with hlti | ⟨hlti, h60i⟩
      all_goals
        have HN := hid (covN_zero L)
        go_wp2_with fail
        go_loopw [5, 6] (fun n t wq => ∃ m : Nat, m ≤ 200 ∧ t = .int .i64 m ∧ n = .int .i64 (covN L 0 m : Nat) ∧ covN L 0 m ≤ m ∧ Bw wr wq) (fun _ t _ => 200 - (intOf t).toNat)
        case atStart => exact ⟨0, by omega, rfl, by rw [HN.out]; rfl, by rw [HN.out]; omega, Bw.refl wr⟩
        case round =>
          rename World => wq
          obtain ⟨m, hm, rfl, rfl, hcm, hbq⟩ := hrel
          have HQ := hid hbq
          by_cases hlt2 : m < 200
          · have hlt2i : (m : Int) < 200 := by omega
            have HF := hid (find_any g L HR.out (by omega) m wq (HBB.out.bw hbq).at)
            rcases find_cases HR.out m with ⟨e1, e2, e3⟩ | ⟨p, hp, e1, e2, e4, e5, e3⟩
            · rw [e1, e2] at HF
              have HE := hid e3
              generalize covN L 0 m = c at *
              clear e1 e2 e3 hbq
              go_wp2_with fail
              refine HF.out.mono ?_
              rintro e w3 ⟨rfl, hb3⟩
              have HB3 := hid (HQ.out.trans hb3)
              clear hb3
              go_wp2
              exact ⟨⟨m + 1, by omega, by go_num, by rw [HE.out], by rw [HE.out]; omega, HB3.out⟩, by simp [intOf]; omega⟩
            · obtain ⟨j, q, hjq, hx, hlo, hhi⟩ := HII.out p hp
              have hjl : j < l.length := by
                rcases Nat.lt_or_ge j l.length with h | h
                · exact h
                · rw [List.getElem?_eq_none h] at hjq; cases hjq
              obtain ⟨b, off, rfl, hbl, q0, q1⟩ := HST.out j hjl
              rw [show l[j] = q by rw [List.getElem?_eq_getElem hjl] at hjq; injection hjq] at q0 q1
              rw [hlo] at e4
              rw [hhi] at e5
              rw [e1, e2, hx] at HF
              have hjn : j < len := by rw [← hll.out]; exact hjl
              have HE := hid e3
              have HQ0 := hid q0
              have HQ1 := hid q1
              generalize covN L 0 m = c at *
              clear e1 e2 e3 hbq hp hjq hx hlo hhi hjl q0 q1
              have g1 : ¬ (j : Int) + 1 < 1 := by omega
              have g2 : ¬ (len : Int) < (j : Int) + 1 := by omega
              have g3 : decide ((j : Int) + 1 < 1) = false := decide_eq_false g1
              have g4 : decide ((len : Int) < (j : Int) + 1) = false := decide_eq_false g2
              have g5 : decide ((m : Int) < q.lo) = false := decide_eq_false (by omega)
              have g6 : decide (q.hi ≤ (m : Int)) = false := decide_eq_false (by omega)
              have g7 : (j : Int) < len := by omega
              go_wp2_with fail
              refine HF.out.mono ?_
              rintro e w3 ⟨rfl, hb3⟩
              have HB3 := hid (HQ.out.trans hb3)
              have c0 := (HBB.out.low.trans HB3.out).cell HQ0.out
              have c1 := (HBB.out.low.trans HB3.out).cell HQ1.out
              clear hb3
              go_wp2
              exact ⟨⟨m + 1, by omega, by go_num, by rw [HE.out]; go_num, by rw [HE.out]; omega, HB3.out⟩, by simp [intOf]; omega⟩
          · obtain rfl : m = 200 := by omega
            have HCV : Hid (∀ W, SetAt W g L → Calls Try.prog 20 #[.pointer (some ⟨g, 0, none⟩), .int .i64 0, .int .i64 200] W fun e w' => e = .returned (.int .i64 (covN L 0 200 : Nat)) ∧ Bw W w') := hid fun W h => covered_ok g L HR.out (by omega) 0 200 W h (by decide)
            have HS := hid (HBB.out.bw hbq)
            generalize covN L 0 200 = c at *
            clear hbq
            go_wp2_with fail
            refine (HCV.out _ HS.out.at).mono ?_
            rintro e w3 ⟨rfl, hb3⟩
            have HS3 := hid (HS.out.bw hb3)
            clear hb3
            go_wp2_with fail
            refine (HL.out _).mono ?_
            rintro e w4 ⟨rfl, hb4⟩
            have HS4 := hid (HS3.out.bw hb4)
            clear hb4
            go_wp2
            go_returns
            exact ⟨rfl, HS4.out.low⟩

/-! The frame: from the walk to the statement. -/
theorem own : ownKnob Try.prog.godebug = none := by kernel_rfl
theorem laidOut : laidOutB Try.prog = true := by kernel_rfl
set_option maxRecDepth 100000 in
theorem lifted (os : Os) (started : os.Started) (H : Type) (enc : TypeId × Value → H) :
    ReturnsInHanded {} Try.checked os 7 .any (Rows.regionsBytesSpec.pre6 enc Try.prog Try.f7 Rows.regionsBytesRow.domain false) (Rows.regionsBytesSpec.post enc Try.prog Try.f7 false true false false) := by
  refine returnsInHanded_of_change_sized (C := Try.checked) own started (by kernel_rfl) Try.func7
    (ChangeSpec.witness6 (enc := enc) (C := Try.checked) false ⟨#[], #[.slice none 0 0], []⟩ 8 (by kernel_rfl) (by kernel_rfl) (by kernel_rfl) (by kernel_rfl)) ?_
  intro W base args ds gs before hval0 hW hcnd hsz0 _
  have hval : ∀ (j : Nat) t v, Try.f7.params[j]? = some t → args[j]? = some v → Value.okWide Try.prog W .any base t v := hval0
  have hW' := hW
  obtain ⟨p, q, hA0, hV, rfl, hfz, hnd⟩ := hW
  have hA : DataW.TrodAll enc Try.prog W 0 (fun _ => true) true Try.f7.params.toList args.toList ds p := hA0
  have hsz : (DataW.weightsEach Try.prog (Try.f7.params.toList ++ Rows.regionsBytesSpec.plain.varTypes Try.prog) (ds ++ gs)).all (· ≤ reachBytes) = true := hsz0
  rw [Try.params7] at hA hval hsz
  obtain ⟨v0, vs0, d0, ds0, p0, q0, hargs, rfl, rfl, h0, r0⟩ := trodAll_cons hA
  obtain ⟨rfl, rfl, rfl⟩ := trodAll_nil r0
  obtain rfl : args = #[v0] := by cases args; simp_all
  obtain ⟨rfl, rfl⟩ := trodVars_none hV
  have k0 := h0
  have lt0 : ∀ x ∈ p0, x.block < W.heap.size := by obtain ⟨m, hm⟩ := k0; exact DataW.trod_lt m _ _ _ hm
  obtain ⟨oa0, ol0, oc0, rfl⟩ := okWide_slice Try.underlying22 (hval 0 22 v0 rfl rfl)
  obtain ⟨m0, t0⟩ := h0
  obtain ⟨A0, len0, cap0, l0, he0, hl0, hll0, hlc0, hst0⟩ := open_spans t0
  rw [he0] at hW' k0 ⊢
  clear hA0 hval0
  try simp only [List.append_nil] at hW'
  refine (walk A0 len0 cap0 hl0 l0 hll0 W hst0).mono fun e W' ⟨he, bel⟩ => ?_
  subst he
  exact ⟨_, rfl, _, _, _, [], _, [], hW', trodAll_mk1 (shut_bool Try.underlying4 _), (trodAll_cons_mk (Below.trod laidOut (by kernel_rfl) (of_decide_eq_true (by kernel_rfl)) k0 bel lt0) trodAll_mk0), rfl, Below.frame bel _, fun h => by cases h⟩

theorem proved : Rows.RegionsBytesSaid :=
  OpenClaim.holds_of_wide 7 Try.f7 rfl rfl rfl rfl rfl rfl rfl ⟨rfl, rfl, rfl, rfl, rfl⟩ rfl rfl rfl rfl rfl (by kernel_rfl) Try.func7 (by kernel_rfl)
    (of_decide_eq_true (by kernel_rfl)) (by unfold Func.isWrapper; first | (rw [if_pos (by decide +kernel)]; kernel_rfl) | (rw [if_neg (by decide +kernel)]; exact ⟨rfl, rfl⟩))
    (fun os started H enc _ => lifted os started H enc)
end Go.Proofs.Ytemgdnloabefjaa.regionsBytes
