/- ZlibZips returns true for every text, and changes nothing that was there; no condition but that the listed tables hold what the program's text lays. -/
import Derived.Test.YtkmbgkcpohchhaaGreatDoorDefTc
import Derived.Test.YtkmbgkcpohchhaaGreatDoorZlbE
import Derived.Test.YtkmbgkcpohchhaaGreatDoorZlbD
import Derived.ShutString
import Derived.ChangeOld
import Derived.SizedLaws
namespace Go.Proofs.YtkmbgkcpohchhaaGreatDoor.zlibZips
open Go.ChangeShapes Go.WideShapes Go.ChangeAt Go.WideMaps Go.WideElems Go.RowKit
open Go.ChangeMaps (open_string shut_string)
set_option linter.unusedVariables false
set_option maxRecDepth 100000 in
set_option maxHeartbeats 8000000 in
theorem big (s : ByteArray) (h : ¬ s.size ≤ 4000) (w : World) (ht : Both w) :
    Calls Tryz.prog 6 #[.string s] w fun e w' => e = .returned (.bool true) ∧ Bw w w' := by
  have t0 : decide (4000 < s.size) = true := decide_eq_true (by omega)
  have t1 : decide ((4000 : Int) < s.size) = true := decide_eq_true (by omega)
  have HT := hid ht
  clear ht
  clear h
  go_enter Tryz.func6, Tryz.ntmps6
  go_wp2_with fail
  refine (zlive_any w HT.out.tab).mono ?_
  rintro e wl ⟨rfl, hbl⟩
  have HBL := hid hbl
  clear hbl
  go_wp2
  go_returns
  exact ⟨rfl, HBL.out⟩
set_option maxRecDepth 100000 in
set_option maxHeartbeats 8000000 in
theorem small (s : ByteArray) (h : s.size ≤ 4000) (w : World) (ht : Both w) :
    Calls Tryz.prog 6 #[.string s] w fun e w' => e = .returned (.bool true) ∧ Bw w w' := by
  have t0 : decide (4000 < s.size) = false := decide_eq_false (by omega)
  have t1 : decide ((4000 : Int) < s.size) = false := decide_eq_false (by omega)
  have HT := hid ht
  have HZ := hid (zip_any s (by omega) w ht.ord)
  have HD := hid (fun W hW => Deflate_any s (by omega) W hW)
  have HA := hid (fun W => refadler_any s (by show s.size ≤ 281474976710656; omega) W)
  have HS := hid (fun W => refsum_any (adlN 1 s) (adl_lt s) W)
  have hn := adl_lt s
  have HE := hid (show zipS s = (⟨#[120, 156]⟩ : ByteArray) ++ defS s (findL s) ++ sumS (adlN 1 s) from rfl)
  have hd := def_size s (findL s)
  have h4 : (sumS (adlN 1 s)).size = 4 := rfl
  have g1 : ¬ 9223372036854775807 < 2 + (defS s (findL s)).size := by omega
  have g2 : ¬ 9223372036854775807 < 2 + (defS s (findL s)).size + (sumS (adlN 1 s)).size := by omega
  generalize zipS s = zs at *
  generalize adlN 1 s = n at *
  generalize sumS n = sm at *
  clear ht h hd h4
  go_enter Tryz.func6, Tryz.ntmps6
  go_wp2_with fail
  refine HZ.out.mono ?_
  rintro e w1 ⟨_, rfl, hb1⟩
  have HB1 := hid hb1
  have HT1 := hid (HT.out.bw hb1)
  clear hb1
  go_wp2_with fail
  refine (HD.out w1 HT1.out.ord).mono ?_
  rintro e w2 ⟨ts, _, rfl, hb2, rfl⟩
  have HB2 := hid (HB1.out.trans hb2)
  clear hb2
  generalize defS s (findL s) = ds at *
  go_wp2_with fail
  refine (HA.out w2).mono ?_
  rintro e w3 ⟨rfl, rfl⟩
  go_wp2_with fail
  refine (HS.out w2).mono ?_
  rintro e w4 ⟨rfl, hb4⟩
  have HB4 := hid (HB2.out.trans hb4)
  have HT4 := hid (HT.out.bw HB4.out)
  rw [HE.out]
  clear hb4
  go_wp2_with fail
  refine (zlive_any w4 HT4.out.tab).mono ?_
  rintro e wl ⟨rfl, hbl⟩
  have HBL := hid hbl
  clear hbl
  go_wp2
  go_returns
  exact ⟨rfl, HB4.out.trans HBL.out⟩
theorem walk (s : ByteArray) (hs : s.size ≤ 140737488351232) (w : World) (hh : Both w) :
    Calls Tryz.prog 6 #[.string s] w fun e w' => e = .returned (.bool true) ∧ Bw w w' := by
  by_cases h : s.size ≤ 4000
  · exact small s h w hh
  · exact big s h w hh

/-! The frame: from the walk to the statement. -/
set_option maxRecDepth 100000 in
theorem lifted (os : Os) (started : os.Started) (H : Type) (enc : TypeId × Value → H) :
    ReturnsInHanded {} Tryz.checked os 6 .any (fun w args => (Rows.zlibZipsSpec.pre enc Tryz.prog Tryz.f6 [] false w args ∧ laidMetH Tryz.prog Rows.deflateInflateRow.laid w) ∧ sizedMet enc Tryz.prog Tryz.f6 (OpenSpec.ofChange Rows.zlibZipsSpec) false w args)
      (Rows.zlibZipsSpec.post enc Tryz.prog Tryz.f6 false true false false) := by
  refine returnsInHanded_of_change_and (C := Tryz.checked) (X := fun w _ => laidMetH Tryz.prog Rows.deflateInflateRow.laid w) (fun _ _ _ hh h => h.of_heap hh) own started (by kernel_rfl) Tryz.func6
    (ChangeSpec.witness_shaped (enc := enc) (C := Tryz.checked) (os := os) (X := fun w _ => laidMetH Tryz.prog Rows.deflateInflateRow.laid w) false (World.doorLaid Tryz.prog 400 os) #[.string ⟨#[]⟩] 8 rfl (World.shaped_of_RefB (by kernel_rfl) (by kernel_rfl)) (by kernel_rfl) (by kernel_rfl) (by kernel_rfl) (door_met os _)) ?_
  intro W base args ds gs before hval0 hW _ hsz0 hL _
  have hval : ∀ (j : Nat) t v, Tryz.f6.params[j]? = some t → args[j]? = some v → Value.okWide Tryz.prog W .any base t v := hval0
  have hW' := hW
  obtain ⟨p, q, hA0, hV, rfl, hfz, hnd⟩ := hW
  have hA : DataW.TrodAll enc Tryz.prog W 0 (fun _ => true) true Tryz.f6.params.toList args.toList ds p := hA0
  have hsz : (DataW.weightsEach Tryz.prog (Tryz.f6.params.toList ++ Rows.zlibZipsSpec.plain.varTypes Tryz.prog) (ds ++ gs)).all (· ≤ reachBytes) = true := hsz0
  rw [Tryz.params6] at hA hval hsz
  obtain ⟨v0, d0, rfl, rfl, h0⟩ := trodAll_one hA
  obtain ⟨rfl, rfl⟩ := trodVars_none hV
  obtain ⟨a0, rfl, rfl, rfl, w0⟩ := open_string Tryz.underlying9 (hval 0 9 v0 rfl rfl) h0
  have z0 := sized_string hsz (j := 0) (t := 9) (bytes := a0.data.toList) rfl rfl
  clear hA0 hval0
  try simp only [List.append_nil] at hW'
  refine (walk a0 (str_le z0) W  (both_of hL)).mono fun e W' ⟨he, bel⟩ => ?_
  subst he
  exact ⟨_, rfl, _, _, _, [], _, [], hW', trodAll_mk1 (shut_bool Tryz.underlying4 _), trodAll_mk1 (shut_string Tryz.underlying9 w0), rfl, Below.frame bel _, fun h => by cases h⟩

theorem holds : Rows.ZlibZipsSaid :=
  OpenClaim.holds_of_wide 6 Tryz.f6 rfl rfl rfl rfl rfl rfl rfl ⟨rfl, rfl, rfl, rfl, rfl⟩ rfl rfl rfl rfl rfl (by kernel_rfl) Tryz.func6 (by kernel_rfl)
    (of_decide_eq_true (by kernel_rfl)) (by unfold Func.isWrapper; first | (rw [if_pos (by decide +kernel)]; kernel_rfl) | (rw [if_neg (by decide +kernel)]; exact ⟨rfl, rfl⟩))
    (fun os started H enc _ => lifted os started H enc)

theorem proved : Rows.ZlibZipsCardSaid :=
  Claim7.holds_tied_plain_at .later [] [.data, .wider, .wider, .data] true _ true
    holds (fun _ h => by cases h) (by kernel_rfl) (fun _ h => by cases h) zlibZips_row_tie rfl ⟨rfl, rfl⟩ (by kernel_rfl) rfl
    (fun f fn hf hfn => by
      obtain rfl : f = 6 := Option.some.inj ((show Tryz.prog.funcNamed "mortise/mortiselaw10.ZlibZips" = some 6 by kernel_rfl).symm.trans hf) |>.symm
      obtain rfl : fn = Tryz.f6 := (Option.some.inj (Tryz.func6.symm.trans hfn)).symm
      exact ⟨by kernel_rfl, fun j t ht => by
        rw [Tryz.params6] at ht
        have hm : t ∈ [9] := by simpa using Array.mem_of_getElem? ht
        have hall : ([9].all fun u => !Tryz.prog.wantsStandIn u) = true := by kernel_rfl
        exact (show Tryz.prog.wantsStandIn t = false by simpa using List.all_eq_true.1 hall t hm)⟩)
    (by kernel_rfl)
end Go.Proofs.YtkmbgkcpohchhaaGreatDoor.zlibZips
