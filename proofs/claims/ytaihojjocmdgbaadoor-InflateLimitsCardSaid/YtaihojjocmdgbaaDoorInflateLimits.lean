/- InflateLimits returns true for every text, and changes nothing that was there; no condition but that the listed tables hold what the program's text lays. -/
import Derived.Test.YtaihojjocmdgbaaDoorInfT
import Derived.Test.YtaihojjocmdgbaaDoorInfF
import Derived.ShutString
import Derived.ChangeOld
import Derived.SizedLaws
namespace Go.Proofs.YtaihojjocmdgbaaDoor.inflateLimits
open Go.ChangeShapes Go.WideShapes Go.ChangeAt Go.WideMaps Go.WideElems Go.RowKit
open Go.ChangeMaps (open_string shut_string)
set_option linter.unusedVariables false
theorem str_le {s : ByteArray} (h : s.data.toList.length ≤ reachBytes) : s.size ≤ 140737488351232 := by
  have h4 : s.size = s.data.toList.length := by simp
  have h5 : reachBytes = 140737488351232 := by decide
  omega
set_option maxRecDepth 100000 in
set_option maxHeartbeats 8000000 in
theorem big1 (s : ByteArray) (h : ¬ s.size ≤ 20000) (w : World) (ht : Tabs w.heap.size w) :
    Calls Tryd.prog 6 #[.string s] w fun e w' => e = .returned (.bool true) ∧ Bw w w' := by
  have t0 : decide (20000 < s.size) = true := decide_eq_true (by omega)
  have t1 : decide ((20000 : Int) < s.size) = true := decide_eq_true (by omega)
  have HT := hid ht
  clear ht
  clear h
  go_enter Tryd.func6, Tryd.ntmps6
  go_wp2_with fail
  refine (live_any w HT.out).mono ?_
  rintro e wl ⟨rfl, hbl⟩
  have HBL := hid hbl
  clear hbl
  go_wp2
  go_returns
  exact ⟨rfl, HBL.out⟩
set_option maxRecDepth 100000 in
set_option maxHeartbeats 8000000 in
theorem small (s : ByteArray) (h : s.size ≤ 20000) (w : World) (ht : Tabs w.heap.size w) :
    Calls Tryd.prog 6 #[.string s] w fun e w' => e = .returned (.bool true) ∧ Bw w w' := by
  have t0 : decide (20000 < s.size) = false := decide_eq_false (by omega)
  have t1 : decide ((20000 : Int) < s.size) = false := decide_eq_false (by omega)
  have HT := hid ht
  have HI1 := hid (inflate_any s (by omega) 100000 w ht)
  have HS := hid (show s.size ≤ 281474976710656 by omega)
  clear ht
  go_enter Tryd.func6, Tryd.ntmps6
  go_wp2_with fail
  refine HI1.out.mono ?_
  rintro e w1 ⟨a, n, er, rfl, hr1, hb1⟩
  have HR1 := hid hr1
  have HB1 := hid hb1
  have HT1 := hid (HT.out.bw hb1)
  clear hr1 hb1
  by_cases h0 : er = 0
  · subst h0
    have hfew := infR_few (L := 100000) HR1.out
    go_wp2_with fail
    refine (inflate_any s HS.out ((a.size : Nat) : Int) w1 HT1.out).mono ?_
    rintro e w2 ⟨b, m, fr, rfl, hr2, hb2⟩
    have HB2 := hid (HB1.out.trans hb2)
    have HT2 := hid (HT.out.bw HB2.out)
    obtain ⟨rfl, rfl, rfl⟩ := (limits_plain (L := 100000) hfew HR1.out hr2).1 (Nat.le_refl _)
    clear hr2 hb2
    by_cases hz : b.size = 0
    · have t2 : (((b.size : Nat) : Int) == 0) = true := beq_iff_eq.2 (by omega)
      clear hfew
      go_wp2_with fail
      refine (live_any w2 HT2.out).mono ?_
      rintro e wl ⟨rfl, hbl⟩
      have HBL := hid hbl
      clear hbl
      go_wp2
      go_returns
      exact ⟨rfl, HB2.out.trans HBL.out⟩
    · have t2 : (((b.size : Nat) : Int) == 0) = false := beq_eq_false_iff_ne.2 (by omega)
      have e1 : ((b.size : Nat) : Int) - 1 = ((b.size - 1 : Nat) : Int) := by omega
      have HE := hid e1
      have HF := hid hfew
      have HZ := hid (show b.size - 1 < b.size by omega)
      clear hfew hz e1
      have hb9 : (b.size : Int) ≤ 1000000 := by have := HF.out; omega
      have hb1' : (1 : Int) ≤ b.size := by have := HZ.out; omega
      go_wp2_with fail
      rw [HE.out]
      refine (inflate_any s HS.out ((b.size - 1 : Nat) : Int) w2 HT2.out).mono ?_
      rintro e w3 ⟨c, q, gr, rfl, hr3, hb3⟩
      have HB3 := hid (HB2.out.trans hb3)
      have HT3 := hid (HT.out.bw HB3.out)
      obtain rfl := (limits_plain (L := 100000) (by have := HF.out; omega) HR1.out hr3).2 HZ.out
      clear hr3 hb3
      go_wp2_with fail
      refine (live_any w3 HT3.out).mono ?_
      rintro e wl ⟨rfl, hbl⟩
      have HBL := hid hbl
      clear hbl
      go_wp2
      go_returns
      exact ⟨rfl, HB3.out.trans HBL.out⟩
  · obtain ⟨rfl, rfl⟩ := infR_bad HR1.out h0
    have t2 : (er != 0) = true := by simpa using h0
    clear HR1
    go_wp2_with fail
    refine (live_any w1 HT1.out).mono ?_
    rintro e wl ⟨rfl, hbl⟩
    have HBL := hid hbl
    clear hbl
    go_wp2
    go_returns
    exact ⟨rfl, HB1.out.trans HBL.out⟩

theorem walk (s : ByteArray) (hs : s.size ≤ 140737488351232) (w : World) (hh : Tabs w.heap.size w) :
    Calls Tryd.prog 6 #[.string s] w fun e w' => e = .returned (.bool true) ∧ Bw w w' := by
  by_cases h : s.size ≤ 20000
  · exact small s h w hh
  · exact big1 s h w hh

/-! The frame: from the walk to the statement. -/
set_option maxRecDepth 100000 in
theorem lifted (os : Os) (started : os.Started) (H : Type) (enc : TypeId × Value → H) :
    ReturnsInHanded {} Tryd.checked os 6 .any (fun w args => (Rows.inflateLimitsSpec.pre enc Tryd.prog Tryd.f6 [] false w args ∧ laidMetH Tryd.prog Rows.inflateReadsRow.laid w) ∧ sizedMet enc Tryd.prog Tryd.f6 (OpenSpec.ofChange Rows.inflateLimitsSpec) false w args)
      (Rows.inflateLimitsSpec.post enc Tryd.prog Tryd.f6 false true false false) := by
  refine returnsInHanded_of_change_and (C := Tryd.checked) (X := fun w _ => laidMetH Tryd.prog Rows.inflateReadsRow.laid w) (fun _ _ _ hh h => h.of_heap hh) own started (by kernel_rfl) Tryd.func6
    (ChangeSpec.witness_shaped (enc := enc) (C := Tryd.checked) (os := os) (X := fun w _ => laidMetH Tryd.prog Rows.inflateReadsRow.laid w) false (World.doorLaid Tryd.prog 400 os) #[.string ⟨#[]⟩] 8 rfl (World.shaped_of_RefB (by kernel_rfl) (by kernel_rfl)) (by kernel_rfl) (by kernel_rfl) (by kernel_rfl) (door_met os _)) ?_
  intro W base args ds gs before hval0 hW _ hsz0 hL _
  have hval : ∀ (j : Nat) t v, Tryd.f6.params[j]? = some t → args[j]? = some v → Value.okWide Tryd.prog W .any base t v := hval0
  have hW' := hW
  obtain ⟨p, q, hA0, hV, rfl, hfz, hnd⟩ := hW
  have hA : DataW.TrodAll enc Tryd.prog W 0 (fun _ => true) true Tryd.f6.params.toList args.toList ds p := hA0
  have hsz : (DataW.weightsEach Tryd.prog (Tryd.f6.params.toList ++ Rows.inflateLimitsSpec.plain.varTypes Tryd.prog) (ds ++ gs)).all (· ≤ reachBytes) = true := hsz0
  rw [Tryd.params6] at hA hval hsz
  obtain ⟨v0, d0, rfl, rfl, h0⟩ := trodAll_one hA
  obtain ⟨rfl, rfl⟩ := trodVars_none hV
  obtain ⟨a0, rfl, rfl, rfl, w0⟩ := open_string Tryd.underlying9 (hval 0 9 v0 rfl rfl) h0
  have z0 := sized_string hsz (j := 0) (t := 9) (bytes := a0.data.toList) rfl rfl
  clear hA0 hval0
  try simp only [List.append_nil] at hW'
  refine (walk a0 (str_le z0) W (tabs_of hL)).mono fun e W' ⟨he, bel⟩ => ?_
  subst he
  exact ⟨_, rfl, _, _, _, [], _, [], hW', trodAll_mk1 (shut_bool Tryd.underlying4 _), trodAll_mk1 (shut_string Tryd.underlying9 w0), rfl, Below.frame bel _, fun h => by cases h⟩

theorem holds : Rows.InflateLimitsSaid :=
  OpenClaim.holds_of_wide 6 Tryd.f6 rfl rfl rfl rfl rfl rfl rfl ⟨rfl, rfl, rfl, rfl, rfl⟩ rfl rfl rfl rfl rfl (by kernel_rfl) Tryd.func6 (by kernel_rfl)
    (of_decide_eq_true (by kernel_rfl)) (by unfold Func.isWrapper; first | (rw [if_pos (by decide +kernel)]; kernel_rfl) | (rw [if_neg (by decide +kernel)]; exact ⟨rfl, rfl⟩))
    (fun os started H enc _ => lifted os started H enc)

theorem proved : Rows.InflateLimitsCardSaid :=
  Claim7.holds_tied_plain_at .later [] [.wider, .wider, .data] true _ true
    holds (fun _ h => by cases h) (by kernel_rfl) (fun _ h => by cases h) inflateLimits_row_tie rfl ⟨rfl, rfl⟩ (by kernel_rfl) rfl
    (fun f fn hf hfn => by
      obtain rfl : f = 6 := Option.some.inj ((show Tryd.prog.funcNamed "mortise/mortiselaw07.InflateLimits" = some 6 by kernel_rfl).symm.trans hf) |>.symm
      obtain rfl : fn = Tryd.f6 := (Option.some.inj (Tryd.func6.symm.trans hfn)).symm
      exact ⟨by kernel_rfl, fun j t ht => by
        rw [Tryd.params6] at ht
        have hm : t ∈ [9] := by simpa using Array.mem_of_getElem? ht
        have hall : ([9].all fun u => !Tryd.prog.wantsStandIn u) = true := by kernel_rfl
        exact (show Tryd.prog.wantsStandIn t = false by simpa using List.all_eq_true.1 hall t hm)⟩)
    (by kernel_rfl)
end Go.Proofs.YtaihojjocmdgbaaDoor.inflateLimits
