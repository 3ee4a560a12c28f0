/- WavSplits returns true for every text, and changes nothing that was there; no condition but that the listed variable holds what the program's text lays. -/
import Derived.Test.YtgkgimfdbkpbdaaDoorWavTb
import Derived.Test.YtgkgimfdbkpbdaaDoorWavH
namespace Go.Proofs.YtgkgimfdbkpbdaaDoor.wavSplits
open Go.ChangeShapes Go.WideShapes Go.ChangeAt Go.WideMaps Go.WideElems Go.RowKit
open Go.ChangeMaps (open_string shut_string)
set_option linter.unusedVariables false
set_option linter.unusedSimpArgs false
theorem spl_len (s : ByteArray) : ∀ (f p : Nat) (acc : List ChkR), (splGo s f p acc).2.length ≤ acc.length + f
  | 0, p, acc => by rw [splGo]; exact Nat.le_refl _
  | f + 1, p, acc => by
    rw [splGo]
    split
    · show acc.length ≤ _; omega
    · split
      · show ([] : List ChkR).length ≤ _; simp
      · have := spl_len s f (chkN s p) (acc ++ [chkC s p])
        rw [List.length_append] at this
        simp at this
        omega
theorem split_len (s : ByteArray) : (splitP s).2.1.length ≤ s.size := by
  unfold splitP
  have := spl_len s s.size 12 []
  split
  · exact Nat.zero_le _
  · split
    · exact Nat.zero_le _
    · simpa using this
set_option maxRecDepth 100000 in
set_option maxHeartbeats 8000000 in
theorem walk (s : ByteArray) (hs : s.size ≤ 140737488351232) (w : World) (hw : WidAt w) :
    Calls Tryd.prog 3 #[.string s] w fun e w' => e = .returned (.bool true) ∧ Bw w w' := by
  have HWD := hid hw
  by_cases h4 : 40000 < s.size
  · have t1 : (40000 : Int) < s.size := by omega
    clear hw h4
    go_enter Tryd.func3, Tryd.ntmps3
    go_wp2_with fail
    refine (live_any _ (HWD.out.bw (Bw.refl w))).mono ?_
    rintro e wl ⟨rfl, hbl⟩
    have HBL := hid (((Bw.refl w)).trans hbl)
    clear hbl
    go_wp2
    go_returns
    exact ⟨rfl, HBL.out⟩
  · have t1 : ¬ (40000 : Int) < s.size := by omega
    have HA := hid (fun W => split_any s (by omega) W)
    have HB := hid (fun W => rsplit_any s (by omega) W)
    have hln := split_len s
    unfold SplitQ at HA HB
    obtain ⟨⟨F, l, E⟩, hx⟩ : ∃ x, splitP s = x := ⟨_, rfl⟩
    rw [hx] at HA HB hln
    simp only at HA HB hln
    obtain ⟨n, hn⟩ : ∃ n, l.length = n := ⟨_, rfl⟩
    rw [hn] at HA HB hln
    have HSC := hid (fun a c b d W (ha : ChkAt W a l) (hb : ChkAt W b l) => sameC_eq a b n c d (by omega) l (hid hn) W ha hb)
    clear hx hn hw h4
    go_enter Tryd.func3, Tryd.ntmps3
    go_wp2_with fail
    refine (HA.out _).mono ?_
    rintro e w1 ⟨a1, c1, rfl, hb1, ha1⟩
    have HB1 := hid hb1
    have HA1 := hid ha1
    clear hb1 ha1
    go_wp2_with fail
    refine (HB.out _).mono ?_
    rintro e w2 ⟨a2, c2, rfl, hb2, ha2⟩
    have HB2 := hid (HB1.out.trans hb2)
    have HA2 := hid (HA1.out.below hb2)
    have HA3 := hid ha2
    clear hb2 ha2
    go_wp2_with fail
    refine (HSC.out a1 c1 a2 c2 _ HA2.out HA3.out).mono ?_
    rintro e w3 ⟨rfl, hb3⟩
    have HB3 := hid (HB2.out.trans hb3)
    clear hb3
    go_wp2_with fail
    refine (live_any _ (HWD.out.bw HB3.out)).mono ?_
    rintro e wl ⟨rfl, hbl⟩
    have HBL := hid ((HB3.out).trans hbl)
    clear hbl
    go_wp2
    go_returns
    exact ⟨rfl, HBL.out⟩

/-! The frame: from the walk to the statement. -/
set_option maxRecDepth 100000 in
theorem lifted (os : Os) (started : os.Started) (H : Type) (enc : TypeId × Value → H) :
    ReturnsInHanded {} Tryd.checked os 3 .any (fun w args => (Rows.wavSplitsSpec.pre enc Tryd.prog Tryd.f3 [] false w args ∧ laidMetH Tryd.prog Rows.wavSplitsRow.laid w) ∧ sizedMet enc Tryd.prog Tryd.f3 (OpenSpec.ofChange Rows.wavSplitsSpec) false w args)
      (Rows.wavSplitsSpec.post enc Tryd.prog Tryd.f3 false true false false) := by
  refine returnsInHanded_of_change_and (C := Tryd.checked) (X := fun w _ => laidMetH Tryd.prog Rows.wavSplitsRow.laid w) (fun _ _ _ hh h => h.of_heap hh) own started (by kernel_rfl) Tryd.func3
    (ChangeSpec.witness_shaped (enc := enc) (C := Tryd.checked) (os := os) (X := fun w _ => laidMetH Tryd.prog Rows.wavSplitsRow.laid w) false (World.laidAll Tryd.prog os Rows.wavSplitsRow.laid) #[.string ⟨#[]⟩] 8 (World.laidAll_os _ _ _) (World.shaped_of_ZipB (by kernel_rfl) (by kernel_rfl)) (by kernel_rfl) (by kernel_rfl) (by kernel_rfl) (laid_met os _)) ?_
  intro W base args ds gs before hval0 hW _ hsz0 hL _
  have hval : ∀ (j : Nat) t v, Tryd.f3.params[j]? = some t → args[j]? = some v → Value.okWide Tryd.prog W .any base t v := hval0
  have hW' := hW
  obtain ⟨p, q, hA0, hV, rfl, hfz, hnd⟩ := hW
  have hA : DataW.TrodAll enc Tryd.prog W 0 (fun _ => true) true Tryd.f3.params.toList args.toList ds p := hA0
  have hsz : (DataW.weightsEach Tryd.prog (Tryd.f3.params.toList ++ Rows.wavSplitsSpec.plain.varTypes Tryd.prog) (ds ++ gs)).all (· ≤ reachBytes) = true := hsz0
  rw [Tryd.params3] at hA hval hsz
  obtain ⟨v0, d0, rfl, rfl, h0⟩ := trodAll_one hA
  obtain ⟨rfl, rfl⟩ := trodVars_none hV
  obtain ⟨a0, rfl, rfl, rfl, w0⟩ := open_string Tryd.underlying9 (hval 0 9 v0 rfl rfl) h0
  have z0 := sized_string hsz (j := 0) (t := 9) (bytes := a0.data.toList) rfl rfl
  clear hA0 hval0
  try simp only [List.append_nil] at hW'
  refine (walk a0 (str_le z0) W  (wid_of hL)).mono fun e W' ⟨he, bel⟩ => ?_
  subst he
  exact ⟨_, rfl, _, _, _, [], _, [], hW', trodAll_mk1 (shut_bool Tryd.underlying4 _), trodAll_mk1 (shut_string Tryd.underlying9 w0), rfl, Below.frame bel _, fun h => by cases h⟩

theorem holds : Rows.WavSplitsSaid :=
  OpenClaim.holds_of_wide 3 Tryd.f3 rfl rfl rfl rfl rfl rfl rfl ⟨rfl, rfl, rfl, rfl, rfl⟩ rfl rfl rfl rfl rfl (by kernel_rfl) Tryd.func3 (by kernel_rfl)
    (of_decide_eq_true (by kernel_rfl)) (by unfold Func.isWrapper; first | (rw [if_pos (by decide +kernel)]; kernel_rfl) | (rw [if_neg (by decide +kernel)]; exact ⟨rfl, rfl⟩))
    (fun os started H enc _ => lifted os started H enc)

theorem proved : Rows.WavSplitsCardSaid :=
  Claim7.holds_tied_plain_at .later [] [.data] true _ false
    holds (fun _ h => by cases h) (by kernel_rfl) (fun _ h => by cases h) wavSplits_row_tie rfl ⟨rfl, rfl⟩ (by kernel_rfl) rfl
    (fun f fn hf hfn => by
      obtain rfl : f = 3 := Option.some.inj ((show Tryd.prog.funcNamed "mortise/mortiselaw19.WavSplits" = some 3 by kernel_rfl).symm.trans hf) |>.symm
      obtain rfl : fn = Tryd.f3 := (Option.some.inj (Tryd.func3.symm.trans hfn)).symm
      exact ⟨by kernel_rfl, fun j t ht => by
        rw [Tryd.params3] at ht
        have hm : t ∈ [9] := by simpa using Array.mem_of_getElem? ht
        have hall : ([9].all fun u => !Tryd.prog.wantsStandIn u) = true := by kernel_rfl
        exact (show Tryd.prog.wantsStandIn t = false by simpa using List.all_eq_true.1 hall t hm)⟩)
    (by kernel_rfl)
end Go.Proofs.YtgkgimfdbkpbdaaDoor.wavSplits
