/- DeflateBack returns true for every text, and changes nothing that was there; no condition but that the listed table holds what the program's text lays. -/
import Derived.Test.YtkmbgkcpohchhaaGreatDoorDefTb
import Derived.Test.YtkmbgkcpohchhaaGreatDoorDecH
import Derived.Test.YtkmbgkcpohchhaaGreatDoorGDzA
import Derived.Test.YtkmbgkcpohchhaaGreatDoorDefE
import Derived.Test.YtkmbgkcpohchhaaGreatDoorGRefJ
import Derived.ShutString
import Derived.ChangeOld
import Derived.SizedLaws
namespace Go.Proofs.YtkmbgkcpohchhaaGreatDoor.deflateBack
open Go.ChangeShapes Go.WideShapes Go.ChangeAt Go.WideMaps Go.WideElems Go.RowKit
open Go.ChangeMaps (open_string shut_string)
set_option linter.unusedVariables false
set_option maxRecDepth 100000 in
set_option maxHeartbeats 8000000 in
theorem big (s : ByteArray) (h : ¬ s.size ≤ 4000) (w : World) (ht : OrdAt w) :
    Calls Tryz.prog 4 #[.string s] w fun e w' => e = .returned (.bool true) ∧ Bw w w' := by
  have t0 : decide (4000 < s.size) = true := decide_eq_true (by omega)
  have t1 : decide ((4000 : Int) < s.size) = true := decide_eq_true (by omega)
  have HT := hid ht
  clear ht
  clear h
  go_enter Tryz.func4, Tryz.ntmps4
  go_wp2_with fail
  refine (live_any w HT.out).mono ?_
  rintro e wl ⟨rfl, hbl⟩
  have HBL := hid hbl
  clear hbl
  go_wp2
  go_returns
  exact ⟨rfl, HBL.out⟩
set_option maxRecDepth 100000 in
set_option maxHeartbeats 8000000 in
theorem small (s : ByteArray) (h : s.size ≤ 4000) (w : World) (ht : OrdAt w) :
    Calls Tryz.prog 4 #[.string s] w fun e w' => e = .returned (.bool true) ∧ Bw w w' := by
  have t0 : decide (4000 < s.size) = false := decide_eq_false (by omega)
  have t1 : decide ((4000 : Int) < s.size) = false := decide_eq_false (by omega)
  have HT := hid ht
  have HD := hid (Deflate_any s (by omega) w ht)
  have HS := hid (fun W => rStored_any s (by omega) W)
  have HF := hid (fun W => find_any s (by omega) W)
  have HX := hid (fun a cap n (hn : Hid ((findL s).length = n)) (hn2 : n ≤ 10000) W (hW : ToksAt W a (findL s)) => rFixed_any a n cap hn2 (findL s) hn W hW)
  have HI := hid (fun (hf : FindOk s (findL s)) (a : ByteArray) (n er : Int) (h2 : InfR (defS s (findL s)) s.size a n er) => def_inf0 hf h2 (by omega))
  have HCO := hid (fun (hf : FindOk s (findL s)) => exp_cost _ _ _ _ hf.2.1)
  obtain ⟨l1, l2⟩ := def_le s (findL s)
  have hz : (defS s (findL s)).size ≤ 1000000 := by have := def_size s (findL s); omega
  generalize hds : defS s (findL s) = ds at *
  have HDS := hid hds
  generalize (⟨(stoL s.data.toList).toArray⟩ : ByteArray) = st at *
  generalize hfx : outS (fixP (findL s)) = fx at *
  have HFX := hid hfx
  have HR := hid (fun L W => rinflate_any ds (by omega) L W)
  have l1i : ((ds.size : Nat) : Int) ≤ st.size := by omega
  have l2i : ((ds.size : Nat) : Int) ≤ fx.size := by omega
  clear ht h hds hfx l1 l2 hz
  go_enter Tryz.func4, Tryz.ntmps4
  go_wp2_with fail
  refine HD.out.mono ?_
  rintro e w1 ⟨ts, hfo, rfl, hb1, rfl⟩
  have HB1 := hid hb1
  have HFO := hid hfo
  rw [HDS.out]
  clear hb1 hfo
  go_wp2_with fail
  refine (HR.out _ w1).mono ?_
  rintro e w2 ⟨b, n, er, rfl, hr, hb2⟩
  obtain ⟨he1, rfl, rfl⟩ := HI.out HFO.out _ _ _ hr
  replace he1 := he1.symm
  subst he1
  have HB2 := hid (HB1.out.trans hb2)
  clear hr hb2
  go_wp2_with fail
  refine (HS.out w2).mono ?_
  rintro e w3 ⟨rfl, hb3⟩
  have HB3 := hid (HB2.out.trans hb3)
  clear hb3
  go_wp2_with fail
  refine (HF.out w3).mono ?_
  rintro e w4 ⟨l, a, cap, rfl, hf4, htk, hb4, _, hl⟩
  obtain ⟨n, hn⟩ : ∃ n, l.length = n := ⟨_, rfl⟩
  rw [hn]
  have hn4 : n ≤ s.size := by have := hf4.2.2.1; omega
  rw [hl] at hn htk
  have HB4 := hid (HB3.out.trans hb4)
  have HX4 := hid (HX.out a cap n (hid hn) (by have := of_decide_eq_false t0; omega) w4 htk)
  clear hb4 hl hf4 hn htk hn4
  go_wp2_with fail
  refine HX4.out.mono ?_
  rintro e w5 ⟨hc, hb5⟩
  have HB5 := hid (HB4.out.trans hb5)
  have HT5 := hid (HT.out.bw HB5.out)
  clear hb5
  rcases hc with ⟨_, rfl⟩ | ⟨h0, _⟩
  · skip
    go_wp2_with fail
    refine (live_any w5 HT5.out).mono ?_
    rintro e wl ⟨rfl, hbl⟩
    have HBL := hid hbl
    clear hbl
    go_wp2
    go_returns
    exact ⟨rfl, HB5.out.trans HBL.out⟩
  · rw [HCO.out HFO.out] at h0
    cases h0
theorem walk (s : ByteArray) (hs : s.size ≤ 140737488351232) (w : World) (hh : OrdAt w) :
    Calls Tryz.prog 4 #[.string s] w fun e w' => e = .returned (.bool true) ∧ Bw w w' := by
  by_cases h : s.size ≤ 4000
  · exact small s h w hh
  · exact big s h w hh

/-! The frame: from the walk to the statement. -/
set_option maxRecDepth 100000 in
theorem lifted (os : Os) (started : os.Started) (H : Type) (enc : TypeId × Value → H) :
    ReturnsInHanded {} Tryz.checked os 4 .any (fun w args => (Rows.deflateBackSpec.pre enc Tryz.prog Tryz.f4 [] false w args ∧ laidMetH Tryz.prog Rows.deflateDynamicRow.laid w) ∧ sizedMet enc Tryz.prog Tryz.f4 (OpenSpec.ofChange Rows.deflateBackSpec) false w args)
      (Rows.deflateBackSpec.post enc Tryz.prog Tryz.f4 false true false false) := by
  refine returnsInHanded_of_change_and (C := Tryz.checked) (X := fun w _ => laidMetH Tryz.prog Rows.deflateDynamicRow.laid w) (fun _ _ _ hh h => h.of_heap hh) own started (by kernel_rfl) Tryz.func4
    (ChangeSpec.witness_shaped (enc := enc) (C := Tryz.checked) (os := os) (X := fun w _ => laidMetH Tryz.prog Rows.deflateDynamicRow.laid w) false (World.doorLaid Tryz.prog 400 os) #[.string ⟨#[]⟩] 8 rfl (World.shaped_of_RefB (by kernel_rfl) (by kernel_rfl)) (by kernel_rfl) (by kernel_rfl) (by kernel_rfl) (door_met os _)) ?_
  intro W base args ds gs before hval0 hW _ hsz0 hL _
  have hval : ∀ (j : Nat) t v, Tryz.f4.params[j]? = some t → args[j]? = some v → Value.okWide Tryz.prog W .any base t v := hval0
  have hW' := hW
  obtain ⟨p, q, hA0, hV, rfl, hfz, hnd⟩ := hW
  have hA : DataW.TrodAll enc Tryz.prog W 0 (fun _ => true) true Tryz.f4.params.toList args.toList ds p := hA0
  have hsz : (DataW.weightsEach Tryz.prog (Tryz.f4.params.toList ++ Rows.deflateBackSpec.plain.varTypes Tryz.prog) (ds ++ gs)).all (· ≤ reachBytes) = true := hsz0
  rw [Tryz.params4] at hA hval hsz
  obtain ⟨v0, d0, rfl, rfl, h0⟩ := trodAll_one hA
  obtain ⟨rfl, rfl⟩ := trodVars_none hV
  obtain ⟨a0, rfl, rfl, rfl, w0⟩ := open_string Tryz.underlying9 (hval 0 9 v0 rfl rfl) h0
  have z0 := sized_string hsz (j := 0) (t := 9) (bytes := a0.data.toList) rfl rfl
  clear hA0 hval0
  try simp only [List.append_nil] at hW'
  refine (walk a0 (str_le z0) W  (ord_of hL)).mono fun e W' ⟨he, bel⟩ => ?_
  subst he
  exact ⟨_, rfl, _, _, _, [], _, [], hW', trodAll_mk1 (shut_bool Tryz.underlying4 _), trodAll_mk1 (shut_string Tryz.underlying9 w0), rfl, Below.frame bel _, fun h => by cases h⟩

theorem holds : Rows.DeflateBackSaid :=
  OpenClaim.holds_of_wide 4 Tryz.f4 rfl rfl rfl rfl rfl rfl rfl ⟨rfl, rfl, rfl, rfl, rfl⟩ rfl rfl rfl rfl rfl (by kernel_rfl) Tryz.func4 (by kernel_rfl)
    (of_decide_eq_true (by kernel_rfl)) (by unfold Func.isWrapper; first | (rw [if_pos (by decide +kernel)]; kernel_rfl) | (rw [if_neg (by decide +kernel)]; exact ⟨rfl, rfl⟩))
    (fun os started H enc _ => lifted os started H enc)

theorem proved : Rows.DeflateBackCardSaid :=
  Claim7.holds_tied_plain_at .later [] [.data] true _ true
    holds (fun _ h => by cases h) (by kernel_rfl) (fun _ h => by cases h) deflateBack_row_tie rfl ⟨rfl, rfl⟩ (by kernel_rfl) rfl
    (fun f fn hf hfn => by
      obtain rfl : f = 4 := Option.some.inj ((show Tryz.prog.funcNamed "mortise/mortiselaw09.DeflateBack" = some 4 by kernel_rfl).symm.trans hf) |>.symm
      obtain rfl : fn = Tryz.f4 := (Option.some.inj (Tryz.func4.symm.trans hfn)).symm
      exact ⟨by kernel_rfl, fun j t ht => by
        rw [Tryz.params4] at ht
        have hm : t ∈ [9] := by simpa using Array.mem_of_getElem? ht
        have hall : ([9].all fun u => !Tryz.prog.wantsStandIn u) = true := by kernel_rfl
        exact (show Tryz.prog.wantsStandIn t = false by simpa using List.all_eq_true.1 hall t hm)⟩)
    (by kernel_rfl)
end Go.Proofs.YtkmbgkcpohchhaaGreatDoor.deflateBack
