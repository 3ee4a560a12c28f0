/- DeflateInflate returns true for every text, and changes nothing that was there; no condition but that the listed tables hold what the program's text lays. -/
import Derived.Test.YtkmbgkcpohchhaaGreatDoorDefTc
import Derived.Test.YtkmbgkcpohchhaaGreatDoorDecH
import Derived.Test.YtkmbgkcpohchhaaGreatDoorDefL
import Derived.ShutString
import Derived.ChangeOld
import Derived.SizedLaws
namespace Go.Proofs.YtkmbgkcpohchhaaGreatDoor.deflateInflate
open Go.ChangeShapes Go.WideShapes Go.ChangeAt Go.WideMaps Go.WideElems Go.RowKit
open Go.ChangeMaps (open_string shut_string)
set_option linter.unusedVariables false
set_option maxRecDepth 100000 in
set_option maxHeartbeats 8000000 in
theorem big (s : ByteArray) (h : ¬ s.size ≤ 100000) (w : World) (ht : Both w) :
    Calls Tryz.prog 5 #[.string s] w fun e w' => e = .returned (.bool true) ∧ Bw w w' := by
  have t0 : decide (100000 < s.size) = true := decide_eq_true (by omega)
  have t1 : decide ((100000 : Int) < s.size) = true := decide_eq_true (by omega)
  have HT := hid ht
  clear ht
  clear h
  go_enter Tryz.func5, Tryz.ntmps5
  go_wp2_with fail
  refine (live_any w HT.out.ord).mono ?_
  rintro e wl ⟨rfl, hbl⟩
  have HBL := hid hbl
  clear hbl
  go_wp2
  go_returns
  exact ⟨rfl, HBL.out⟩
set_option maxRecDepth 100000 in
set_option maxHeartbeats 8000000 in
theorem small (s : ByteArray) (h : s.size ≤ 100000) (w : World) (ht : Both w) :
    Calls Tryz.prog 5 #[.string s] w fun e w' => e = .returned (.bool true) ∧ Bw w w' := by
  have t0 : decide (100000 < s.size) = false := decide_eq_false (by omega)
  have t1 : decide ((100000 : Int) < s.size) = false := decide_eq_false (by omega)
  have HT := hid ht
  have HD := hid (Deflate_any s (by omega) w ht.ord)
  have HI := hid (fun (hf : FindOk s (findL s)) (a : ByteArray) (n er : Int) (h2 : InfR (defS s (findL s)) s.size a n er) => def_inf0 hf h2 (by omega))
  have hl := def_size s (findL s)
  have hz : (defS s (findL s)).size ≤ 1000000 := by omega
  generalize hds : defS s (findL s) = ds at *
  have HDS := hid hds
  have HR := hid (fun L W (hW : Tabs W.heap.size W) => inflate_any ds (by omega) L W hW)
  have hqq : wrap64 (((s.size : Nat) : Int) + wrap64 (5 * wrap64 (1 + wrap64 (((s.size : Nat) : Int) / 65535)))) = ((s.size + 5 * (s.size / 65535 + 1) : Nat) : Int) := by
    unfold wrap64; omega
  have hle : decide (wrap64 (((s.size : Nat) : Int) + wrap64 (5 * wrap64 (1 + wrap64 (((s.size : Nat) : Int) / 65535)))) < ((ds.size : Nat) : Int)) = false := decide_eq_false (by rw [hqq]; omega)
  have hle2 : ((ds.size : Nat) : Int) ≤ wrap64 (((s.size : Nat) : Int) + wrap64 (5 * wrap64 (1 + wrap64 (((s.size : Nat) : Int) / 65535)))) := by rw [hqq]; omega
  have hle3 : ¬ wrap64 (((s.size : Nat) : Int) + wrap64 (5 * wrap64 (1 + wrap64 (((s.size : Nat) : Int) / 65535)))) < ((ds.size : Nat) : Int) := by rw [hqq]; omega
  clear ht h hds hl hz hqq
  go_enter Tryz.func5, Tryz.ntmps5
  go_wp2_with fail
  refine HD.out.mono ?_
  rintro e w1 ⟨ts, hfo, rfl, hb1, rfl⟩
  have HB1 := hid hb1
  have HFO := hid hfo
  rw [HDS.out]
  have HT1 := hid (HT.out.bw hb1)
  clear hb1 hfo
  go_wp2_with fail
  refine (HR.out _ w1 HT1.out.tab).mono ?_
  rintro e w2 ⟨b, n, er, rfl, hr, hb2⟩
  obtain ⟨rfl, rfl, rfl⟩ := HI.out HFO.out _ _ _ hr
  have HB2 := hid (HB1.out.trans hb2)
  have HT2 := hid (HT.out.bw HB2.out)
  clear hr hb2
  go_wp2_with fail
  refine (live_any w2 HT2.out.ord).mono ?_
  rintro e wl ⟨rfl, hbl⟩
  have HBL := hid hbl
  clear hbl
  go_wp2
  go_returns
  exact ⟨rfl, HB2.out.trans HBL.out⟩
theorem walk (s : ByteArray) (hs : s.size ≤ 140737488351232) (w : World) (hh : Both w) :
    Calls Tryz.prog 5 #[.string s] w fun e w' => e = .returned (.bool true) ∧ Bw w w' := by
  by_cases h : s.size ≤ 100000
  · exact small s h w hh
  · exact big s h w hh

/-! The frame: from the walk to the statement. -/
set_option maxRecDepth 100000 in
theorem lifted (os : Os) (started : os.Started) (H : Type) (enc : TypeId × Value → H) :
    ReturnsInHanded {} Tryz.checked os 5 .any (fun w args => (Rows.deflateInflateSpec.pre enc Tryz.prog Tryz.f5 [] false w args ∧ laidMetH Tryz.prog Rows.deflateInflateRow.laid w) ∧ sizedMet enc Tryz.prog Tryz.f5 (OpenSpec.ofChange Rows.deflateInflateSpec) false w args)
      (Rows.deflateInflateSpec.post enc Tryz.prog Tryz.f5 false true false false) := by
  refine returnsInHanded_of_change_and (C := Tryz.checked) (X := fun w _ => laidMetH Tryz.prog Rows.deflateInflateRow.laid w) (fun _ _ _ hh h => h.of_heap hh) own started (by kernel_rfl) Tryz.func5
    (ChangeSpec.witness_shaped (enc := enc) (C := Tryz.checked) (os := os) (X := fun w _ => laidMetH Tryz.prog Rows.deflateInflateRow.laid w) false (World.doorLaid Tryz.prog 400 os) #[.string ⟨#[]⟩] 8 rfl (World.shaped_of_RefB (by kernel_rfl) (by kernel_rfl)) (by kernel_rfl) (by kernel_rfl) (by kernel_rfl) (door_met os _)) ?_
  intro W base args ds gs before hval0 hW _ hsz0 hL _
  have hval : ∀ (j : Nat) t v, Tryz.f5.params[j]? = some t → args[j]? = some v → Value.okWide Tryz.prog W .any base t v := hval0
  have hW' := hW
  obtain ⟨p, q, hA0, hV, rfl, hfz, hnd⟩ := hW
  have hA : DataW.TrodAll enc Tryz.prog W 0 (fun _ => true) true Tryz.f5.params.toList args.toList ds p := hA0
  have hsz : (DataW.weightsEach Tryz.prog (Tryz.f5.params.toList ++ Rows.deflateInflateSpec.plain.varTypes Tryz.prog) (ds ++ gs)).all (· ≤ reachBytes) = true := hsz0
  rw [Tryz.params5] at hA hval hsz
  obtain ⟨v0, d0, rfl, rfl, h0⟩ := trodAll_one hA
  obtain ⟨rfl, rfl⟩ := trodVars_none hV
  obtain ⟨a0, rfl, rfl, rfl, w0⟩ := open_string Tryz.underlying9 (hval 0 9 v0 rfl rfl) h0
  have z0 := sized_string hsz (j := 0) (t := 9) (bytes := a0.data.toList) rfl rfl
  clear hA0 hval0
  try simp only [List.append_nil] at hW'
  refine (walk a0 (str_le z0) W  (both_of hL)).mono fun e W' ⟨he, bel⟩ => ?_
  subst he
  exact ⟨_, rfl, _, _, _, [], _, [], hW', trodAll_mk1 (shut_bool Tryz.underlying4 _), trodAll_mk1 (shut_string Tryz.underlying9 w0), rfl, Below.frame bel _, fun h => by cases h⟩

theorem holds : Rows.DeflateInflateSaid :=
  OpenClaim.holds_of_wide 5 Tryz.f5 rfl rfl rfl rfl rfl rfl rfl ⟨rfl, rfl, rfl, rfl, rfl⟩ rfl rfl rfl rfl rfl (by kernel_rfl) Tryz.func5 (by kernel_rfl)
    (of_decide_eq_true (by kernel_rfl)) (by unfold Func.isWrapper; first | (rw [if_pos (by decide +kernel)]; kernel_rfl) | (rw [if_neg (by decide +kernel)]; exact ⟨rfl, rfl⟩))
    (fun os started H enc _ => lifted os started H enc)

theorem proved : Rows.DeflateInflateCardSaid :=
  Claim7.holds_tied_plain_at .later [] [.data, .wider, .wider, .data] true _ true
    holds (fun _ h => by cases h) (by kernel_rfl) (fun _ h => by cases h) deflateInflate_row_tie rfl ⟨rfl, rfl⟩ (by kernel_rfl) rfl
    (fun f fn hf hfn => by
      obtain rfl : f = 5 := Option.some.inj ((show Tryz.prog.funcNamed "mortise/mortiselaw09.DeflateInflate" = some 5 by kernel_rfl).symm.trans hf) |>.symm
      obtain rfl : fn = Tryz.f5 := (Option.some.inj (Tryz.func5.symm.trans hfn)).symm
      exact ⟨by kernel_rfl, fun j t ht => by
        rw [Tryz.params5] at ht
        have hm : t ∈ [9] := by simpa using Array.mem_of_getElem? ht
        have hall : ([9].all fun u => !Tryz.prog.wantsStandIn u) = true := by kernel_rfl
        exact (show Tryz.prog.wantsStandIn t = false by simpa using List.all_eq_true.1 hall t hm)⟩)
    (by kernel_rfl)
end Go.Proofs.YtkmbgkcpohchhaaGreatDoor.deflateInflate
