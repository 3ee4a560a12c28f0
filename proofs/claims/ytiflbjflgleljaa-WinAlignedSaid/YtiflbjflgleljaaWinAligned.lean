/- WinAligned returns true for every two ints, and changes nothing that was there; no condition. -/
import Derived.Test.YtiflbjflgleljaaWinK
import Derived.ProofKit
import Derived.OpenShut
import Derived.ShutString
import Derived.ChangeOld
namespace Go.Proofs.Ytiflbjflgleljaa.winAligned
open Go.RowKit Go.ChangeShapes Go.WideShapes Go.ChangeAt
set_option linter.unusedVariables false

theorem aligned {n a : Int} (h : alignB n a = true) : AlignIn n a ∧ Off (alignN n a) ∧ n ≤ alignN n a ∧ alignN n a - n < a ∧ alignN n a % a = 0 := by
  by_cases hi : AlignIn n a
  · obtain ⟨ho, h1, h2⟩ := hi
    have hr0 : 0 ≤ n % a := Int.emod_nonneg _ (by omega)
    have hr1 : n % a < a := Int.emod_lt_of_pos _ (by omega)
    by_cases hz : n % a = 0
    · rw [alignN_zero ⟨ho, h1, h2⟩ hz]
      exact ⟨⟨ho, h1, h2⟩, ho, by omega, by omega, hz⟩
    · rw [alignB_add ⟨ho, h1, h2⟩ hz] at h
      rw [alignN_add ⟨ho, h1, h2⟩ hz]
      have ha := of_decide_eq_true h
      rw [addN_yes ha.1 ha.2.1 ha.2.2]
      have ho0 := ho.1
      refine ⟨⟨ho, h1, h2⟩, ⟨by omega, ha.2.2⟩, by omega, by omega, ?_⟩
      have e : n + (a - n % a) = a * (n / a + 1) := by
        have := Int.mul_ediv_add_emod n a
        rw [Int.mul_add, Int.mul_one]
        omega
      rw [e]
      exact Int.mul_emod_right _ _
  · rw [alignB_no hi] at h; cases h
set_option maxRecDepth 100000 in
set_option maxHeartbeats 2000000 in
theorem walk (n a : Int) (w : World) :
    Calls Try.prog 8 #[.int .i64 n, .int .i64 a] w fun e w' => e = .returned (.bool true) ∧ Bw w w' := by
  by_cases hb : alignB n a = true
  · obtain ⟨hi, hx, h1, h2, h3⟩ := aligned hb
    obtain ⟨hx0, hx1⟩ := hx
    obtain ⟨hn, ha1, ha2⟩ := hi
    obtain ⟨hn0, hn1⟩ := hn
    have hi2 : AlignIn (alignN n a) a := ⟨⟨hx0, hx1⟩, ha1, ha2⟩
    have e1 := alignN_zero hi2 h3
    have e2 := alignB_zero hi2 h3
    have hc : Calls Try.prog 17 #[.int .i64 n, .int .i64 a] w fun e w' => e = .returned (.tuple #[.int .i64 (alignN n a), .bool true]) ∧ w = w' := by
      have h := align_any n a w
      rwa [hb] at h
    have hd : Calls Try.prog 17 #[.int .i64 (alignN n a), .int .i64 a] w fun e w' => e = .returned (.tuple #[.int .i64 (alignN n a), .bool true]) ∧ w = w' := by
      have h := align_any (alignN n a) a w
      rwa [e1, e2] at h
    clear e1 e2 hi2 hb
    generalize alignN n a = x at *
    have HC := hid hc
    have HD := hid hd
    clear hc hd
    have h3b : (x % a == 0) = true := by rw [beq_iff_eq]; exact h3
    clear h3
    go_enter Try.func8, Try.ntmps8
    go_wp2_with fail
    refine HC.out.mono ?_
    rintro e w1 ⟨rfl, rfl⟩
    go_wp2_with fail
    refine HD.out.mono ?_
    rintro e w1 ⟨rfl, rfl⟩
    go_wp2_with fail
    refine (live_any _).mono ?_
    rintro e w9 ⟨rfl, h9⟩
    go_wp2
    go_returns
    exact ⟨rfl, h9⟩
  · have hb1 : alignB n a = false := by simpa using hb
    have hz : alignN n a = 0 := by
      by_cases hi : AlignIn n a
      · by_cases hr : n % a = 0
        · rw [alignB_zero hi hr] at hb1; cases hb1
        · rw [alignB_add hi hr] at hb1
          rw [alignN_add hi hr]
          exact addN_no (of_decide_eq_false hb1)
      · exact alignN_no hi
    have hc : Calls Try.prog 17 #[.int .i64 n, .int .i64 a] w fun e w' => e = .returned (.tuple #[.int .i64 0, .bool false]) ∧ w = w' := by
      have h := align_any n a w
      rwa [hb1, hz] at h
    have HC := hid hc
    clear hc hb hb1 hz
    go_enter Try.func8, Try.ntmps8
    go_wp2_with fail
    refine HC.out.mono ?_
    rintro e w1 ⟨rfl, rfl⟩
    go_wp2_with fail
    refine (live_any _).mono ?_
    rintro e w9 ⟨rfl, h9⟩
    go_wp2
    go_returns
    exact ⟨rfl, h9⟩

/-! The frame: from the walk to the statement. -/
theorem own : ownKnob Try.prog.godebug = none := by kernel_rfl
theorem laidOut : laidOutB Try.prog = true := by kernel_rfl
set_option maxRecDepth 100000 in
theorem lifted (os : Os) (started : os.Started) (H : Type) (enc : TypeId × Value → H) :
    ReturnsInHanded {} Try.checked os 8 .any (Rows.winAlignedSpec.pre6 enc Try.prog Try.f8 Rows.winAlignedRow.domain false) (Rows.winAlignedSpec.post enc Try.prog Try.f8 false true false false) := by
  refine returnsInHanded_of_change (C := Try.checked) own started (by kernel_rfl) Try.func8
    (ChangeSpec.witness6 (enc := enc) (C := Try.checked) false ⟨#[], #[.int .i64 0, .int .i64 0], []⟩ 8 (by kernel_rfl) (by kernel_rfl) (by kernel_rfl) (by kernel_rfl)) ?_
  intro W base args ds gs before hval0 hW hcnd _
  have hval : ∀ (j : Nat) t v, Try.f8.params[j]? = some t → args[j]? = some v → Value.okWide Try.prog W .any base t v := hval0
  have hW' := hW
  obtain ⟨p, q, hA0, hV, rfl, hfz, hnd⟩ := hW
  have hA : DataW.TrodAll enc Try.prog W 0 (fun _ => true) true Try.f8.params.toList args.toList ds p := hA0
  rw [Try.params8] at hA hval
  obtain ⟨v0, vs0, d0, ds0, p0, q0, hargs, rfl, rfl, h0, r0⟩ := trodAll_cons hA
  obtain ⟨v1, vs1, d1, ds1, p1, q1, rfl, rfl, rfl, h1, r1⟩ := trodAll_cons r0
  obtain ⟨rfl, rfl, rfl⟩ := trodAll_nil r1
  obtain rfl : args = #[v0, v1] := by cases args; simp_all
  obtain ⟨rfl, rfl⟩ := trodVars_none hV
  obtain ⟨a0, rfl, rfl, rfl, w0⟩ := open_int Try.underlying3 (hval 0 3 v0 rfl rfl) h0
  obtain ⟨a1, rfl, rfl, rfl, w1⟩ := open_int Try.underlying3 (hval 1 3 v1 rfl rfl) h1
  clear hA0 hval0
  simp only [List.append_nil] at hW'
  refine (walk a0 a1 W).mono fun e W' ⟨he, bel⟩ => ?_
  subst he
  exact ⟨_, rfl, _, _, _, [], _, [], hW', trodAll_mk1 (shut_bool Try.underlying4 _), (trodAll_cons_mk (shut_int Try.underlying3 w0) (trodAll_cons_mk (shut_int Try.underlying3 w1) trodAll_mk0)), rfl, Below.frame bel _, fun h => by cases h⟩

theorem proved : Rows.WinAlignedSaid :=
  OpenClaim.holds_of_wide 8 Try.f8 rfl rfl rfl rfl rfl rfl rfl ⟨rfl, rfl, rfl, rfl, rfl⟩ rfl rfl rfl rfl rfl (by kernel_rfl) Try.func8 (by kernel_rfl)
    (of_decide_eq_true (by kernel_rfl)) (by unfold Func.isWrapper; first | (rw [if_pos (by decide +kernel)]; kernel_rfl) | (rw [if_neg (by decide +kernel)]; exact ⟨rfl, rfl⟩))
    (fun os started H enc _ => lifted os started H enc)
end Go.Proofs.Ytiflbjflgleljaa.winAligned
