/- WinReads returns true for every text, every places, width and order, and changes nothing that was there; no condition. -/
import Derived.Test.YtiflbjflgleljaaWinK
import Derived.Test.YtiflbjflgleljaaLawKit
import Derived.ProofKit
import Derived.OpenShut
import Derived.ShutString
import Derived.ChangeOld
namespace Go.Proofs.Ytiflbjflgleljaa.winReads
open Go.RowKit Go.ChangeShapes Go.WideShapes Go.ChangeAt
set_option linter.unusedVariables false

set_option maxRecDepth 100000 in
set_option maxHeartbeats 1000000 in
theorem walk (s : ByteArray) (hs : s.size ≤ 140737488351232) (fr at1 wd : Int) (big : Bool) (w : World) :
    Calls Try.prog 6 #[.agg #[.string s, .int .i64 fr, .int .i64 at1, .int .i64 wd, .bool big]] w fun e w' => e = .returned (.bool true) ∧ Bw w w' := by
  by_cases h1 : fr < 0
  · go_enter Try.func6, Try.ntmps6
    go_wp2_with fail
    go_quiet (fail)
    go_wp2_with fail
    refine (live_any _).mono ?_
    rintro e wq1 ⟨rfl, hq1⟩
    go_wp2
    go_returns
    exact ⟨rfl, Bw.trans (below_drewN (Below.alloc (Below.refl _ _) (Nat.le_refl _) _) _) (hq1)⟩
  · by_cases h2 : (s.size : Int) < fr
    · go_enter Try.func6, Try.ntmps6
      go_wp2_with fail
      go_quiet (fail)
      go_wp2_with fail
      refine (live_any _).mono ?_
      rintro e wq1 ⟨rfl, hq1⟩
      go_wp2
      go_returns
      exact ⟨rfl, Bw.trans (below_drewN (Below.alloc (Below.refl _ _) (Nat.le_refl _) _) _) (hq1)⟩
    · obtain ⟨p, rfl⟩ := Int.eq_ofNat_of_zero_le (show 0 ≤ fr by omega)
      have Hs := hid (show s.size ≤ lim by unfold lim; omega)
      have hC : ∀ w, Calls Try.prog 23 #[.agg #[.int .i64 0, .string s], .int .i64 p, .int .i64 ((s.size : Int) - p)] w fun e w' => e = .returned (.tuple #[.agg #[.int .i64 p, .string (s.extract p s.size)], .int .i64 0]) ∧ Bw w w' := fun w => by
        have hE : subE s.size (p : Int) ((s.size : Int) - p) = 0 := subE_ok (by omega) (by omega)
        have h := sub_any 0 (by decide) (by decide) s Hs.out p ((s.size : Int) - p) w
        rw [subB_ok hE, subS_ok hE, hE] at h
        have e1 : ((p : Int).toNat + ((s.size : Int) - p).toNat) = s.size := by omega
        rw [e1] at h
        rw [Int.zero_add] at h
        exact h
      have HC := hid hC
      have HT := hid (show (s.extract p s.size).size ≤ lim by unfold lim; simp; omega)
      have HB := hid (show (0 : Int) ≤ p ∧ (p : Int) ≤ 281474976710656 by omega)
      clear hC
      go_enter Try.func6, Try.ntmps6
      go_wp2_with fail
      go_quiet (fail)
      go_wp2_with fail
      refine (of_any s _).mono ?_
      rintro e wq1 ⟨rfl, hq1⟩
      go_wp2_with fail
      refine (HC.out _).mono ?_
      rintro e wq2 ⟨rfl, hq2⟩
      have Hv := Has.new wq2 34 #[.int .i64 p, .string (s.extract p s.size)]
      go_wp2_with fail
      refine (uint_any _ HB.out.1 HB.out.2 _ HT.out at1 wd big _).mono ?_
      rintro e wq3 ⟨rfl, hq3⟩
      have Hv_3 := hq3.has Hv
      have fv_3_0 : wq3.cell? ⟨wq2.heap.size, 0, none⟩ = some (.int .i64 p) := Hv_3.cell 0
      have fv_3_1 : wq3.cell? ⟨wq2.heap.size, 1, none⟩ = some (.string (s.extract p s.size)) := Hv_3.cell 1
      go_wp2_with fail
      refine (refuint_any _ HT.out at1 wd big _).mono ?_
      rintro e we ⟨rfl, rfl⟩
      go_wp2_with fail
      refine (live_any _).mono ?_
      rintro e wq4 ⟨rfl, hq4⟩
      have Hv_4 := hq4.has Hv_3
      have fv_4_0 : wq4.cell? ⟨wq2.heap.size, 0, none⟩ = some (.int .i64 p) := Hv_4.cell 0
      have fv_4_1 : wq4.cell? ⟨wq2.heap.size, 1, none⟩ = some (.string (s.extract p s.size)) := Hv_4.cell 1
      clear fv_3_0 fv_3_1
      go_wp2
      go_returns
      exact ⟨rfl, Bw.trans (below_drewN (Below.alloc (Below.refl _ _) (Nat.le_refl _) _) _) (Bw.trans hq1 (Bw.trans (hq2.alloc _) (Bw.trans hq3 (hq4))))⟩

/-! The frame: from the walk to the statement. -/
theorem own : ownKnob Try.prog.godebug = none := by kernel_rfl
theorem laidOut : laidOutB Try.prog = true := by kernel_rfl
set_option maxRecDepth 100000 in
theorem lifted (os : Os) (started : os.Started) (H : Type) (enc : TypeId × Value → H) :
    ReturnsInHanded {} Try.checked os 6 .any (Rows.winReadsSpec.pre6 enc Try.prog Try.f6 Rows.winReadsRow.domain false) (Rows.winReadsSpec.post enc Try.prog Try.f6 false true false false) := by
  refine returnsInHanded_of_change_sized (C := Try.checked) own started (by kernel_rfl) Try.func6
    (ChangeSpec.witness6 (enc := enc) (C := Try.checked) false ⟨#[], #[.agg #[.string ⟨#[]⟩, .int .i64 0, .int .i64 0, .int .i64 0, .bool false]], []⟩ 8 (by kernel_rfl) (by kernel_rfl) (by kernel_rfl) (by kernel_rfl)) ?_
  intro W base args ds gs before hval0 hW hcnd hsz0 _
  have hval : ∀ (j : Nat) t v, Try.f6.params[j]? = some t → args[j]? = some v → Value.okWide Try.prog W .any base t v := hval0
  have hW' := hW
  obtain ⟨p, q, hA0, hV, rfl, hfz, hnd⟩ := hW
  have hA : DataW.TrodAll enc Try.prog W 0 (fun _ => true) true Try.f6.params.toList args.toList ds p := hA0
  have hsz : (DataW.weightsEach Try.prog (Try.f6.params.toList ++ Rows.winReadsSpec.plain.varTypes Try.prog) (ds ++ gs)).all (· ≤ reachBytes) = true := hsz0
  rw [Try.params6] at hA hval hsz
  obtain ⟨v0, d0, rfl, rfl, h0⟩ := trodAll_one hA
  obtain ⟨rfl, rfl⟩ := trodVars_none hV
  have k0 := h0
  have lt0 : ∀ x ∈ p, x.block < W.heap.size := by obtain ⟨m, hm⟩ := k0; exact DataW.trod_lt m _ _ _ hm
  obtain ⟨cs, ds, rfl, hlen, rfl, hdl, hf⟩ := open_struct Try.underlying43 (by kernel_rfl) (by kernel_rfl) (hval 0 43 v0 rfl rfl) h0
  obtain ⟨x0, c0, e0⟩ := hf.string 0 rfl Try.underlying9
  have z0 := string_reach hsz (j := 0) (i := 0) rfl rfl Try.underlying43 rfl e0
  obtain ⟨x1, c1, e1, w1⟩ := hf.int 1 rfl Try.underlying3
  obtain ⟨x2, c2, e2, w2⟩ := hf.int 2 rfl Try.underlying3
  obtain ⟨x3, c3, e3, w3⟩ := hf.int 3 rfl Try.underlying3
  obtain ⟨x4, c4, e4⟩ := hf.bool 4 rfl Try.underlying4
  obtain rfl := list5 hlen c0 c1 c2 c3 c4
  clear hA0 hval0
  try simp only [List.append_nil] at hW'
  refine (walk x0 z0 x1 x2 x3 x4 W).mono fun e W' ⟨he, bel⟩ => ?_
  subst he
  exact ⟨_, rfl, _, _, _, [], _, [], hW', trodAll_mk1 (shut_bool Try.underlying4 _), trodAll_mk1 (Below.trod laidOut (by kernel_rfl) (of_decide_eq_true (by kernel_rfl)) k0 bel lt0), rfl, Below.frame bel _, fun h => by cases h⟩

theorem proved : Rows.WinReadsSaid :=
  OpenClaim.holds_of_wide 6 Try.f6 rfl rfl rfl rfl rfl rfl rfl ⟨rfl, rfl, rfl, rfl, rfl⟩ rfl rfl rfl rfl rfl (by kernel_rfl) Try.func6 (by kernel_rfl)
    (of_decide_eq_true (by kernel_rfl)) (by unfold Func.isWrapper; first | (rw [if_pos (by decide +kernel)]; kernel_rfl) | (rw [if_neg (by decide +kernel)]; exact ⟨rfl, rfl⟩))
    (fun os started H enc _ => lifted os started H enc)
end Go.Proofs.Ytiflbjflgleljaa.winReads
