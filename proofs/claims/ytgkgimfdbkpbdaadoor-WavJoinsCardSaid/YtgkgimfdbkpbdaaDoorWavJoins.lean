/- WavJoins returns true for every text and every list of chunks, and changes nothing that was there; no condition but that the listed variable holds what the program's text lays. -/
import Derived.Test.YtgkgimfdbkpbdaaDoorWavTb
import Derived.Test.YtgkgimfdbkpbdaaDoorWavD
namespace Go.Proofs.YtgkgimfdbkpbdaaDoor.wavJoins
open Go.ChangeShapes Go.WideShapes Go.ChangeAt Go.WideMaps Go.WideElems Go.RowKit
open Go.ChangeMaps (open_string shut_string)
set_option linter.unusedVariables false
set_option linter.unusedSimpArgs false
set_option maxRecDepth 100000 in
set_option maxHeartbeats 8000000 in
theorem walk (form : ByteArray) (hz : form.size ≤ 140737488351232) (A : Option Addr) (len cap : Nat) (hlen : len ≤ 9223372036854775807) (l : List ChkR) (hll : l.length = len) (w : World) (hst : ChkAt w A l) (hnc : A = none → cap = 0) (hw : WidAt w) :
    Calls Tryd.prog 4 #[.string form, .slice A len cap] w fun e w' => e = .returned (.bool true) ∧ Bw w w' := by
  have HWD := hid hw
  have HST := hid hst
  have HSM := hid (small_any A len cap hlen l (hid hll) w hst)
  cases hs : smallB l with
  | false =>
    rw [hs] at HSM
    clear hst hw hs hnc
    go_enter Tryd.func4, Tryd.ntmps4
    go_wp2_with fail
    refine (HSM.out).mono ?_
    rintro e w1 ⟨rfl, hb1⟩
    have HB1 := hid ((Bw.refl w).trans hb1)
    clear hb1
    go_wp2_with fail
    refine (live_any _ (HWD.out.bw HB1.out)).mono ?_
    rintro e wl ⟨rfl, hbl⟩
    have HBL := hid ((HB1.out).trans hbl)
    clear hbl
    go_wp2
    go_returns
    exact ⟨rfl, HBL.out⟩
  | true =>
    rw [hs] at HSM
    have h40 := (small_all hs).1
    have hl40 : len ≤ 40 := by omega
    have hf := few_small hs
    have hno := chk_none hst hll hnc
    have HRJ := hid (fun W (h : ChkAt W A l) => rjoin_any form (by omega) A len cap (by omega) l (hid hll) hf W h)
    have HJ := hid (fun v c W (h : ChkAt W v l) => join_any form (by omega) v len c (by omega) l (hid hll) hf W h)
    have HSC := hid (fun v c W (hv : ChkAt W v l) (ha : ChkAt W A l) => sameC_eq v A len c cap hlen l (hid hll) W hv ha)
    have HOK := hid (all_ok hst)
    have HLL := hid hll
    obtain ⟨x, hx⟩ : ∃ x, joinP form l = x := ⟨_, rfl⟩
    rw [hx] at HRJ HJ
    obtain ⟨x1, x2⟩ := x
    have hd : decide (x1 = x1) = true := decide_eq_true rfl
    clear hst hw hs hnc h40 hf hll hx
    go_enter Tryd.func4, Tryd.ntmps4
    go_wp2_with fail
    refine (HSM.out).mono ?_
    rintro e w1 ⟨rfl, hb1⟩
    have HB1 := hid ((Bw.refl w).trans hb1)
    clear hb1
    have HN1 := hid (nil_own w1 w.heap.size)
    go_wp2_with (at_builtin; refine wpList_app_chk rfl _ _ rfl w.heap.size _ _ l rfl HN1.out A len cap rfl HLL.out hno (HST.out.below HB1.out) (by show 0 + len ≤ 1000000; omega) HB1.out.size ?_; intro v7 w7 hown7 hgrow7; rw [List.nil_append, HLL.out] at hown7; obtain ⟨ao, cp, rfl⟩ := own_slice hown7; have HO7 := hid hown7; have HB7 := hid (show Bw w w7 from Below.trans HB1.out (own_grownJ HN1.out hgrow7 HB1.out.size)); clear hown7 hgrow7)
    have HC7 := hid (ChkAt.of_own (l := l) (by rw [HLL.out]; exact HO7.out) HOK.out)
    refine (HJ.out ao cp _ HC7.out).mono ?_
    rintro e w8 ⟨rfl, hb8⟩
    have HB8 := hid (HB7.out.trans hb8)
    have HC8 := hid (HC7.out.below hb8)
    clear hb8
    go_wp2_with fail
    refine (HRJ.out _ (HST.out.below HB8.out)).mono ?_
    rintro e w9 ⟨rfl, hb9⟩
    have HB9 := hid ((HB8.out).trans hb9)
    have HC9 := hid (HC8.out.below hb9)
    clear hb9
    go_wp2_with fail
    refine (HSC.out ao cp _ HC9.out (HST.out.below HB9.out)).mono ?_
    rintro e w10 ⟨rfl, hb10⟩
    have HB10 := hid ((HB9.out).trans hb10)
    clear hb10
    go_wp2_with fail
    refine (live_any _ (HWD.out.bw HB10.out)).mono ?_
    rintro e wl ⟨rfl, hbl⟩
    have HBL := hid ((HB10.out).trans hbl)
    clear hbl
    go_wp2
    go_returns
    exact ⟨rfl, HBL.out⟩

/-! The frame: from the walk to the statement. -/
set_option maxRecDepth 100000 in
theorem lifted (os : Os) (started : os.Started) (H : Type) (enc : TypeId × Value → H) :
    ReturnsInHanded {} Tryd.checked os 4 .any (fun w args => (Rows.wavJoinsSpec.pre enc Tryd.prog Tryd.f4 [] false w args ∧ laidMetH Tryd.prog Rows.wavSplitsRow.laid w) ∧ sizedMet enc Tryd.prog Tryd.f4 (OpenSpec.ofChange Rows.wavJoinsSpec) false w args)
      (Rows.wavJoinsSpec.post enc Tryd.prog Tryd.f4 false true false false) := by
  refine returnsInHanded_of_change_and (C := Tryd.checked) (X := fun w _ => laidMetH Tryd.prog Rows.wavSplitsRow.laid w) (fun _ _ _ hh h => h.of_heap hh) own started (by kernel_rfl) Tryd.func4
    (ChangeSpec.witness_shaped (enc := enc) (C := Tryd.checked) (os := os) (X := fun w _ => laidMetH Tryd.prog Rows.wavSplitsRow.laid w) false (World.laidAll Tryd.prog os Rows.wavSplitsRow.laid) #[.string ⟨#[]⟩, .slice none 0 0] 8 (World.laidAll_os _ _ _) (World.shaped_of_ZipB (by kernel_rfl) (by kernel_rfl)) (by kernel_rfl) (by kernel_rfl) (by kernel_rfl) (laid_met os _)) ?_
  intro W base args ds gs before hval0 hW _ hsz0 hL _
  have hval : ∀ (j : Nat) t v, Tryd.f4.params[j]? = some t → args[j]? = some v → Value.okWide Tryd.prog W .any base t v := hval0
  have hW' := hW
  obtain ⟨p, q, hA0, hV, rfl, hfz, hnd⟩ := hW
  have hA : DataW.TrodAll enc Tryd.prog W 0 (fun _ => true) true Tryd.f4.params.toList args.toList ds p := hA0
  have hsz : (DataW.weightsEach Tryd.prog (Tryd.f4.params.toList ++ Rows.wavJoinsSpec.plain.varTypes Tryd.prog) (ds ++ gs)).all (· ≤ reachBytes) = true := hsz0
  rw [Tryd.params4] at hA hval hsz
  obtain ⟨v0, vs0, d0, ds0, p0, q0, hargs, rfl, rfl, h0, r0⟩ := trodAll_cons hA
  obtain ⟨v1, vs1, d1, ds1, p1, q1, rfl, rfl, rfl, h1, r1⟩ := trodAll_cons r0
  obtain ⟨rfl, rfl, rfl⟩ := trodAll_nil r1
  obtain rfl : args = #[v0, v1] := by cases args; simp_all
  obtain ⟨rfl, rfl⟩ := trodVars_none hV
  obtain ⟨a0, rfl, rfl, rfl, w0⟩ := open_string Tryd.underlying9 (hval 0 9 v0 rfl rfl) h0
  have z0 := sized_string hsz (j := 0) (t := 9) (bytes := a0.data.toList) rfl rfl
  have k1 := h1
  have lt1 : ∀ x ∈ p1, x.block < W.heap.size := by obtain ⟨m, hm⟩ := k1; exact DataW.trod_lt m _ _ _ hm
  obtain ⟨oa1, ol1, oc1, rfl⟩ := okWide_slice Tryd.underlying23 (hval 1 23 v1 rfl rfl)
  obtain ⟨m1, t1⟩ := h1
  obtain ⟨A1, len1, cap1, l1, he1, hl1, hll1, hst1⟩ := open_chk t1
  rw [he1] at hW' k1 ⊢
  clear hA0 hval0
  try simp only [List.append_nil] at hW'
  refine (walk a0 (str_le z0) A1 len1 cap1 hl1 l1 hll1 W hst1 (nil_cap t1 he1) (wid_of hL)).mono fun e W' ⟨he, bel⟩ => ?_
  subst he
  exact ⟨_, rfl, _, _, _, [], _, [], hW', trodAll_mk1 (shut_bool Tryd.underlying4 _), (trodAll_cons_mk (shut_string Tryd.underlying9 w0) (trodAll_cons_mk (Below.trod laidOut (by kernel_rfl) (of_decide_eq_true (by kernel_rfl)) k1 bel lt1) trodAll_mk0)), rfl, Below.frame bel _, fun h => by cases h⟩

theorem holds : Rows.WavJoinsSaid :=
  OpenClaim.holds_of_wide 4 Tryd.f4 rfl rfl rfl rfl rfl rfl rfl ⟨rfl, rfl, rfl, rfl, rfl⟩ rfl rfl rfl rfl rfl (by kernel_rfl) Tryd.func4 (by kernel_rfl)
    (of_decide_eq_true (by kernel_rfl)) (by unfold Func.isWrapper; first | (rw [if_pos (by decide +kernel)]; kernel_rfl) | (rw [if_neg (by decide +kernel)]; exact ⟨rfl, rfl⟩))
    (fun os started H enc _ => lifted os started H enc)

theorem proved : Rows.WavJoinsCardSaid :=
  Claim7.holds_tied_plain_at .later [] [.data] true _ false
    holds (fun _ h => by cases h) (by kernel_rfl) (fun _ h => by cases h) wavJoins_row_tie rfl ⟨rfl, rfl⟩ (by kernel_rfl) rfl
    (fun f fn hf hfn => by
      obtain rfl : f = 4 := Option.some.inj ((show Tryd.prog.funcNamed "mortise/mortiselaw19.WavJoins" = some 4 by kernel_rfl).symm.trans hf) |>.symm
      obtain rfl : fn = Tryd.f4 := (Option.some.inj (Tryd.func4.symm.trans hfn)).symm
      exact ⟨by kernel_rfl, fun j t ht => by
        rw [Tryd.params4] at ht
        have hm : t ∈ [9, 23] := by simpa using Array.mem_of_getElem? ht
        have hall : ([9, 23].all fun u => !Tryd.prog.wantsStandIn u) = true := by kernel_rfl
        exact (show Tryd.prog.wantsStandIn t = false by simpa using List.all_eq_true.1 hall t hm)⟩)
    (by kernel_rfl)
end Go.Proofs.YtgkgimfdbkpbdaaDoor.wavJoins
