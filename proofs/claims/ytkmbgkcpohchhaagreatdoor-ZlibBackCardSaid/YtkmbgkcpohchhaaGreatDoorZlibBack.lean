/- ZlibBack returns true for any two texts, and changes nothing that was there; no condition but that the listed tables hold what the program's text lays. -/
import Derived.Test.YtkmbgkcpohchhaaGreatDoorDefTc
import Derived.Test.YtkmbgkcpohchhaaGreatDoorZlbE
import Derived.Test.YtkmbgkcpohchhaaGreatDoorZlbD
import Derived.ShutString
import Derived.ChangeOld
import Derived.SizedLaws
namespace Go.Proofs.YtkmbgkcpohchhaaGreatDoor.zlibBack
open Go.ChangeShapes Go.WideShapes Go.ChangeAt Go.WideMaps Go.WideElems Go.RowKit
open Go.ChangeMaps (open_string shut_string)
set_option linter.unusedVariables false
set_option maxRecDepth 100000 in
set_option maxHeartbeats 8000000 in
theorem big1 (s more : ByteArray) (h : ¬ s.size ≤ 20000) (w : World) (ht : Both w) :
    Calls Tryz.prog 7 #[.string s, .string more] w fun e w' => e = .returned (.bool true) ∧ Bw w w' := by
  have t0 : decide (20000 < s.size) = true := decide_eq_true (by omega)
  have t1 : decide ((20000 : Int) < s.size) = true := decide_eq_true (by omega)
  have HT := hid ht
  clear ht
  clear h
  go_enter Tryz.func7, Tryz.ntmps7
  go_wp2_with fail
  refine (zlive_any w HT.out.tab).mono ?_
  rintro e wl ⟨rfl, hbl⟩
  have HBL := hid hbl
  clear hbl
  go_wp2
  go_returns
  exact ⟨rfl, HBL.out⟩
set_option maxRecDepth 100000 in
set_option maxHeartbeats 8000000 in
theorem big2 (s more : ByteArray) (h : s.size ≤ 20000) (h2 : ¬ more.size ≤ 20000) (w : World) (ht : Both w) :
    Calls Tryz.prog 7 #[.string s, .string more] w fun e w' => e = .returned (.bool true) ∧ Bw w w' := by
  have t0 : decide (20000 < s.size) = false := decide_eq_false (by omega)
  have t1 : decide ((20000 : Int) < s.size) = false := decide_eq_false (by omega)
  have t2 : decide (20000 < more.size) = true := decide_eq_true (by omega)
  have t3 : decide ((20000 : Int) < more.size) = true := decide_eq_true (by omega)
  have HT := hid ht
  clear ht
  clear h h2
  go_enter Tryz.func7, Tryz.ntmps7
  go_wp2_with fail
  refine (zlive_any w HT.out.tab).mono ?_
  rintro e wl ⟨rfl, hbl⟩
  have HBL := hid hbl
  clear hbl
  go_wp2
  go_returns
  exact ⟨rfl, HBL.out⟩
set_option maxRecDepth 100000 in
set_option maxHeartbeats 8000000 in
theorem small (s more : ByteArray) (h : s.size ≤ 20000) (h2 : more.size ≤ 20000) (w : World) (ht : Both w) :
    Calls Tryz.prog 7 #[.string s, .string more] w fun e w' => e = .returned (.bool true) ∧ Bw w w' := by
  have t0 : decide (20000 < s.size) = false := decide_eq_false (by omega)
  have t1 : decide ((20000 : Int) < s.size) = false := decide_eq_false (by omega)
  have t2 : decide (20000 < more.size) = false := decide_eq_false (by omega)
  have t3 : decide ((20000 : Int) < more.size) = false := decide_eq_false (by omega)
  have HT := hid ht
  have HZ := hid (zip_any s (by omega) w ht.ord)
  have HK := hid (fun hf => zip_back (s := s) hf (by omega) more)
  have hz : (zipS s).size ≤ 1000000 := by
    have := def_size s (findL s)
    unfold zipS
    rw [ByteArray.size_append, ByteArray.size_append]
    show 2 + _ + 4 ≤ _
    omega
  generalize zipS s = zs at *
  have g1 : ¬ 9223372036854775807 < zs.size + more.size := by omega
  have hzm : (zs ++ more).size ≤ 1100000 := by rw [ByteArray.size_append]; omega
  have HU := hid (fun (hk : UnzR (zs ++ more) s.size s (zs.size : Nat) 0) W (hW : Tabs W.heap.size W) => unzip_is (zs ++ more) (by omega) _ hk W hW)
  clear ht h h2 hzm
  go_enter Tryz.func7, Tryz.ntmps7
  go_wp2_with fail
  refine HZ.out.mono ?_
  rintro e w1 ⟨hfo, rfl, hb1⟩
  have HB1 := hid hb1
  have HT1 := hid (HT.out.bw hb1)
  have HU1 := hid (HU.out (HK.out hfo) w1 HT1.out.tab)
  clear hb1 hfo
  go_wp2_with fail
  refine HU1.out.mono ?_
  rintro e w2 ⟨rfl, hb2⟩
  have HB2 := hid (HB1.out.trans hb2)
  have HT2 := hid (HT.out.bw HB2.out)
  clear hb2
  go_wp2_with fail
  refine (zlive_any w2 HT2.out.tab).mono ?_
  rintro e wl ⟨rfl, hbl⟩
  have HBL := hid hbl
  clear hbl
  go_wp2
  go_returns
  exact ⟨rfl, HB2.out.trans HBL.out⟩
theorem walk (s : ByteArray) (hs : s.size ≤ 140737488351232) (more : ByteArray) (hm : more.size ≤ 140737488351232) (w : World) (hh : Both w) :
    Calls Tryz.prog 7 #[.string s, .string more] w fun e w' => e = .returned (.bool true) ∧ Bw w w' := by
  by_cases h : s.size ≤ 20000
  · by_cases h2 : more.size ≤ 20000
    · exact small s more h h2 w hh
    · exact big2 s more h h2 w hh
  · exact big1 s more h w hh

/-! The frame: from the walk to the statement. -/
set_option maxRecDepth 100000 in
theorem lifted (os : Os) (started : os.Started) (H : Type) (enc : TypeId × Value → H) :
    ReturnsInHanded {} Tryz.checked os 7 .any (fun w args => (Rows.zlibBackSpec.pre enc Tryz.prog Tryz.f7 [] false w args ∧ laidMetH Tryz.prog Rows.deflateInflateRow.laid w) ∧ sizedMet enc Tryz.prog Tryz.f7 (OpenSpec.ofChange Rows.zlibBackSpec) false w args)
      (Rows.zlibBackSpec.post enc Tryz.prog Tryz.f7 false true false false) := by
  refine returnsInHanded_of_change_and (C := Tryz.checked) (X := fun w _ => laidMetH Tryz.prog Rows.deflateInflateRow.laid w) (fun _ _ _ hh h => h.of_heap hh) own started (by kernel_rfl) Tryz.func7
    (ChangeSpec.witness_shaped (enc := enc) (C := Tryz.checked) (os := os) (X := fun w _ => laidMetH Tryz.prog Rows.deflateInflateRow.laid w) false (World.doorLaid Tryz.prog 400 os) #[.string ⟨#[]⟩, .string ⟨#[]⟩] 8 rfl (World.shaped_of_RefB (by kernel_rfl) (by kernel_rfl)) (by kernel_rfl) (by kernel_rfl) (by kernel_rfl) (door_met os _)) ?_
  intro W base args ds gs before hval0 hW _ hsz0 hL _
  have hval : ∀ (j : Nat) t v, Tryz.f7.params[j]? = some t → args[j]? = some v → Value.okWide Tryz.prog W .any base t v := hval0
  have hW' := hW
  obtain ⟨p, q, hA0, hV, rfl, hfz, hnd⟩ := hW
  have hA : DataW.TrodAll enc Tryz.prog W 0 (fun _ => true) true Tryz.f7.params.toList args.toList ds p := hA0
  have hsz : (DataW.weightsEach Tryz.prog (Tryz.f7.params.toList ++ Rows.zlibBackSpec.plain.varTypes Tryz.prog) (ds ++ gs)).all (· ≤ reachBytes) = true := hsz0
  rw [Tryz.params7] at hA hval hsz
  obtain ⟨v0, vs0, d0, ds0, p0, q0, hargs, rfl, rfl, h0, r0⟩ := trodAll_cons hA
  obtain ⟨v1, vs1, d1, ds1, p1, q1, rfl, rfl, rfl, h1, r1⟩ := trodAll_cons r0
  obtain ⟨rfl, rfl, rfl⟩ := trodAll_nil r1
  obtain rfl : args = #[v0, v1] := by cases args; simp_all
  obtain ⟨rfl, rfl⟩ := trodVars_none hV
  obtain ⟨a0, rfl, rfl, rfl, w0⟩ := open_string Tryz.underlying9 (hval 0 9 v0 rfl rfl) h0
  have z0 := sized_string hsz (j := 0) (t := 9) (bytes := a0.data.toList) rfl rfl
  obtain ⟨a1, rfl, rfl, rfl, w1⟩ := open_string Tryz.underlying9 (hval 1 9 v1 rfl rfl) h1
  have z1 := sized_string hsz (j := 1) (t := 9) (bytes := a1.data.toList) rfl rfl
  clear hA0 hval0
  try simp only [List.append_nil] at hW'
  refine (walk a0 (str_le z0) a1 (str_le z1) W  (both_of hL)).mono fun e W' ⟨he, bel⟩ => ?_
  subst he
  exact ⟨_, rfl, _, _, _, [], _, [], hW', trodAll_mk1 (shut_bool Tryz.underlying4 _), (trodAll_cons_mk (shut_string Tryz.underlying9 w0) (trodAll_cons_mk (shut_string Tryz.underlying9 w1) trodAll_mk0)), rfl, Below.frame bel _, fun h => by cases h⟩

theorem holds : Rows.ZlibBackSaid :=
  OpenClaim.holds_of_wide 7 Tryz.f7 rfl rfl rfl rfl rfl rfl rfl ⟨rfl, rfl, rfl, rfl, rfl⟩ rfl rfl rfl rfl rfl (by kernel_rfl) Tryz.func7 (by kernel_rfl)
    (of_decide_eq_true (by kernel_rfl)) (by unfold Func.isWrapper; first | (rw [if_pos (by decide +kernel)]; kernel_rfl) | (rw [if_neg (by decide +kernel)]; exact ⟨rfl, rfl⟩))
    (fun os started H enc _ => lifted os started H enc)

theorem proved : Rows.ZlibBackCardSaid :=
  Claim7.holds_tied_plain_at .later [] [.data, .wider, .wider, .data] true _ true
    holds (fun _ h => by cases h) (by kernel_rfl) (fun _ h => by cases h) zlibBack_row_tie rfl ⟨rfl, rfl⟩ (by kernel_rfl) rfl
    (fun f fn hf hfn => by
      obtain rfl : f = 7 := Option.some.inj ((show Tryz.prog.funcNamed "mortise/mortiselaw10.ZlibBack" = some 7 by kernel_rfl).symm.trans hf) |>.symm
      obtain rfl : fn = Tryz.f7 := (Option.some.inj (Tryz.func7.symm.trans hfn)).symm
      exact ⟨by kernel_rfl, fun j t ht => by
        rw [Tryz.params7] at ht
        have hm : t ∈ [9, 9] := by simpa using Array.mem_of_getElem? ht
        have hall : ([9, 9].all fun u => !Tryz.prog.wantsStandIn u) = true := by kernel_rfl
        exact (show Tryz.prog.wantsStandIn t = false by simpa using List.all_eq_true.1 hall t hm)⟩)
    (by kernel_rfl)
end Go.Proofs.YtkmbgkcpohchhaaGreatDoor.zlibBack
