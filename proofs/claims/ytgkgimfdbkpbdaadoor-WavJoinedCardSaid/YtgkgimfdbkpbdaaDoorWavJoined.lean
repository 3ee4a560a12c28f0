/- WavJoined returns true for every text, every list of chunks and every int, and changes nothing that was there; no condition but that the listed variable holds what the program's text lays. -/
import Derived.Test.YtgkgimfdbkpbdaaDoorWavTb
namespace Go.Proofs.YtgkgimfdbkpbdaaDoor.wavJoined
open Go.ChangeShapes Go.WideShapes Go.ChangeAt Go.WideMaps Go.WideElems Go.RowKit
open Go.ChangeMaps (open_string shut_string)
set_option linter.unusedVariables false
set_option linter.unusedSimpArgs false
set_option maxRecDepth 100000 in
set_option maxHeartbeats 8000000 in
theorem walk (form : ByteArray) (hz : form.size ≤ 140737488351232) (A : Option Addr) (len cap : Nat) (hlen : len ≤ 9223372036854775807) (l : List ChkR) (hll : l.length = len) (cut : Int) (hi : Lit.wf (.int .i64 cut) = true) (w : World) (hst : ChkAt w A l) (hnc : A = none → cap = 0) (hw : WidAt w) :
    Calls Tryd.prog 7 #[.string form, .slice A len cap, .int .i64 cut] w fun e w' => e = .returned (.bool true) ∧ Bw w w' := by
  have HWD := hid hw
  have HST := hid hst
  have HSM := hid (fun W (h : Bw w W) => small_any A len cap hlen l (hid hll) W (hst.below h))
  cases hs : smallB l with
  | false =>
    rw [hs] at HSM
    clear hst hw hs hnc hi
    go_enter Tryd.func7, Tryd.ntmps7
    go_wp2_with fail
    refine (HSM.out w (Bw.refl w)).mono ?_
    rintro e w1 ⟨rfl, hb1⟩
    have HB1 := hid ((Bw.refl w).trans hb1)
    clear hb1
    go_wp2_with fail
    refine (live_any _ (HWD.out.bw HB1.out)).mono ?_
    rintro e wl ⟨rfl, hbl⟩
    have HBL := hid ((HB1.out).trans hbl)
    clear hbl
    go_wp2
    go_returns
    exact ⟨rfl, HBL.out⟩
  | true =>
    rw [hs] at HSM
    have h40 := (small_all hs).1
    have hl40 : len ≤ 40 := by omega
    have hf := few_small hs
    have hsum := few_sum hf
    have HJ := hid (fun W (h : ChkAt W A l) => join_any form (by omega) A len cap (by omega) l (hid hll) hf W h)
    cases hj : joinB form l with
    | false =>
      have hjp : joinP form l = (⟨#[]⟩, 1) := if_neg (by rw [hj]; decide)
      rw [hjp] at HJ
      clear hst hw hs hnc hi h40 hf hsum hj hjp
      go_enter Tryd.func7, Tryd.ntmps7
      go_wp2_with fail
      refine (HSM.out w (Bw.refl w)).mono ?_
      rintro e w1 ⟨rfl, hb1⟩
      have HB1 := hid ((Bw.refl w).trans hb1)
      clear hb1
      go_wp2_with fail
      refine (HJ.out _ (HST.out.below HB1.out)).mono ?_
      rintro e w2 ⟨rfl, hb2⟩
      have HB2 := hid ((HB1.out).trans hb2)
      clear hb2
      go_wp2_with fail
      refine (live_any _ (HWD.out.bw HB2.out)).mono ?_
      rintro e wl ⟨rfl, hbl⟩
      have HBL := hid ((HB2.out).trans hbl)
      clear hbl
      go_wp2
      go_returns
      exact ⟨rfl, HBL.out⟩
    | true =>
    have hjp : joinP form l = (joinT form l, 0) := if_pos hj
    have hjz := joinT_size (joinB_all hj).1 (joinB_all hj).2
    have hsp := split_join (joinB_all hj).1 (joinB_all hj).2 (by omega)
    have hcut0 := split_cut (joinB_all hj).1 (joinB_all hj).2 (by omega)
    obtain ⟨s, hse⟩ : ∃ s, joinT form l = s := ⟨_, rfl⟩
    rw [hse] at hjp hjz hsp hcut0
    rw [hjp] at HJ
    have HSP := hid (fun W => (split_any s (by omega) W).mono (fun e W' h => (show ∃ a c, e = .returned (.tuple #[.string form, .slice a len c, .int .i64 0]) ∧ Bw W W' ∧ ChkAt W' a l from by
      obtain ⟨a, c, h1, h2, h3⟩ := h
      rw [hsp] at h1 h3
      simp only [hll] at h1
      exact ⟨a, c, h1, h2, h3⟩)))
    have HSA := hid (fun a c W (ha : ChkAt W A l) (hb : ChkAt W a l) => sameC_eq A a len cap c hlen l (hid hll) W ha hb)
    have z12 : ¬ (s.size : Int) < 12 := by omega
    have z0 : ¬ s.size = 0 := by omega
    have hzz : s.size ≤ 2000000 := by omega
    have hi2 : -9223372036854775808 ≤ cut ∧ cut ≤ 9223372036854775807 := by
      have := hi
      simp [Lit.wf, IntKind.min, IntKind.max, IntKind.bits, IntKind.signed] at this
      omega
    clear hst hw hs hnc hi h40 hf hsum hj hjp hse hsp hjz
    by_cases hneg : cut < 0
    · have i1 : IntKind.i64.wrap (cut + 1) = cut + 1 := IntWalk.i64_in _ (by omega)
      have i2 : IntKind.i64.wrap (-(cut + 1)) = -(cut + 1) := IntWalk.i64_in _ (by omega)
      obtain ⟨q, hq⟩ : ∃ q : Nat, -(cut + 1) = q := ⟨(-(cut + 1)).toNat, by omega⟩
      have hmd : q % s.size < s.size := Nat.mod_lt _ (by omega)
      have htm : (-(cut + 1)).tmod (s.size : Int) = ((q % s.size : Nat) : Int) := by
        rw [hq, Int.tmod_eq_emod_of_nonneg (by omega)]
        exact (Int.natCast_emod _ _).symm
      have hcut := hcut0 (q % s.size) hmd
      obtain ⟨md, hmdd⟩ : ∃ md, q % s.size = md := ⟨_, rfl⟩
      rw [hmdd] at hmd htm hcut
      have HSC := hid (fun W => (split_any (s.extract 0 md) (by rw [ByteArray.size_extract]; omega) W).mono (fun e W' h => (show ∃ a c, e = .returned (.tuple #[.string ⟨#[]⟩, .slice a 0 c, .int .i64 2]) ∧ Bw W W' from by
        obtain ⟨a, c, h1, h2, h3⟩ := h
        rw [hcut] at h1
        exact ⟨a, c, h1, h2⟩)))
      have m1 : (md : Int) ≤ s.size := by omega
      have m2 : md ≤ s.size := by omega
      have m3 : (0 : Int) ≤ md := by omega
      clear hcut hmdd hq hcut0
      go_enter Tryd.func7, Tryd.ntmps7
      go_wp2_with fail
      refine (HSM.out w (Bw.refl w)).mono ?_
      rintro e w1 ⟨rfl, hb1⟩
      have HB1 := hid hb1
      clear hb1
      go_wp2_with fail
      refine (HJ.out _ (HST.out.below HB1.out)).mono ?_
      rintro e w2 ⟨rfl, hb2⟩
      have HB2 := hid (HB1.out.trans hb2)
      clear hb2
      go_wp2_with fail
      refine (HSP.out w2).mono ?_
      rintro e w3 ⟨a, c, rfl, hb3, ha3⟩
      have HB3 := hid (HB2.out.trans hb3)
      have HA3 := hid ha3
      clear hb3 ha3
      go_wp2_with fail
      refine (HSA.out a c _ (HST.out.below HB3.out) HA3.out).mono ?_
      rintro e w4 ⟨rfl, hb4⟩
      have HB4 := hid (HB3.out.trans hb4)
      clear hb4
      go_wp2_with fail
      refine (HSC.out w4).mono ?_
      rintro e w5 ⟨a5, c5, rfl, hb5⟩
      have HB5 := hid (HB4.out.trans hb5)
      clear hb5
      go_wp2_with fail
      refine (live_any _ (HWD.out.bw HB5.out)).mono ?_
      rintro e wl ⟨rfl, hbl⟩
      have HBL := hid ((HB5.out).trans hbl)
      clear hbl
      go_wp2
      go_returns
      exact ⟨rfl, HBL.out⟩
    · obtain ⟨q, hq⟩ : ∃ q : Nat, cut = q := ⟨cut.toNat, by omega⟩
      have hmd : q % s.size < s.size := Nat.mod_lt _ (by omega)
      have htm : (cut).tmod (s.size : Int) = ((q % s.size : Nat) : Int) := by
        rw [hq, Int.tmod_eq_emod_of_nonneg (by omega)]
        exact (Int.natCast_emod _ _).symm
      have hcut := hcut0 (q % s.size) hmd
      obtain ⟨md, hmdd⟩ : ∃ md, q % s.size = md := ⟨_, rfl⟩
      rw [hmdd] at hmd htm hcut
      have HSC := hid (fun W => (split_any (s.extract 0 md) (by rw [ByteArray.size_extract]; omega) W).mono (fun e W' h => (show ∃ a c, e = .returned (.tuple #[.string ⟨#[]⟩, .slice a 0 c, .int .i64 2]) ∧ Bw W W' from by
        obtain ⟨a, c, h1, h2, h3⟩ := h
        rw [hcut] at h1
        exact ⟨a, c, h1, h2⟩)))
      have m1 : (md : Int) ≤ s.size := by omega
      have m2 : md ≤ s.size := by omega
      have m3 : (0 : Int) ≤ md := by omega
      clear hcut hmdd hq hcut0
      go_enter Tryd.func7, Tryd.ntmps7
      go_wp2_with fail
      refine (HSM.out w (Bw.refl w)).mono ?_
      rintro e w1 ⟨rfl, hb1⟩
      have HB1 := hid hb1
      clear hb1
      go_wp2_with fail
      refine (HJ.out _ (HST.out.below HB1.out)).mono ?_
      rintro e w2 ⟨rfl, hb2⟩
      have HB2 := hid (HB1.out.trans hb2)
      clear hb2
      go_wp2_with fail
      refine (HSP.out w2).mono ?_
      rintro e w3 ⟨a, c, rfl, hb3, ha3⟩
      have HB3 := hid (HB2.out.trans hb3)
      have HA3 := hid ha3
      clear hb3 ha3
      go_wp2_with fail
      refine (HSA.out a c _ (HST.out.below HB3.out) HA3.out).mono ?_
      rintro e w4 ⟨rfl, hb4⟩
      have HB4 := hid (HB3.out.trans hb4)
      clear hb4
      go_wp2_with fail
      refine (HSC.out w4).mono ?_
      rintro e w5 ⟨a5, c5, rfl, hb5⟩
      have HB5 := hid (HB4.out.trans hb5)
      clear hb5
      go_wp2_with fail
      refine (live_any _ (HWD.out.bw HB5.out)).mono ?_
      rintro e wl ⟨rfl, hbl⟩
      have HBL := hid ((HB5.out).trans hbl)
      clear hbl
      go_wp2
      go_returns
      exact ⟨rfl, HBL.out⟩

/-! The frame: from the walk to the statement. -/
set_option maxRecDepth 100000 in
theorem lifted (os : Os) (started : os.Started) (H : Type) (enc : TypeId × Value → H) :
    ReturnsInHanded {} Tryd.checked os 7 .any (fun w args => (Rows.wavJoinedSpec.pre enc Tryd.prog Tryd.f7 [] false w args ∧ laidMetH Tryd.prog Rows.wavSplitsRow.laid w) ∧ sizedMet enc Tryd.prog Tryd.f7 (OpenSpec.ofChange Rows.wavJoinedSpec) false w args)
      (Rows.wavJoinedSpec.post enc Tryd.prog Tryd.f7 false true false false) := by
  refine returnsInHanded_of_change_and (C := Tryd.checked) (X := fun w _ => laidMetH Tryd.prog Rows.wavSplitsRow.laid w) (fun _ _ _ hh h => h.of_heap hh) own started (by kernel_rfl) Tryd.func7
    (ChangeSpec.witness_shaped (enc := enc) (C := Tryd.checked) (os := os) (X := fun w _ => laidMetH Tryd.prog Rows.wavSplitsRow.laid w) false (World.laidAll Tryd.prog os Rows.wavSplitsRow.laid) #[.string ⟨#[]⟩, .slice none 0 0, .int .i64 0] 8 (World.laidAll_os _ _ _) (World.shaped_of_ZipB (by kernel_rfl) (by kernel_rfl)) (by kernel_rfl) (by kernel_rfl) (by kernel_rfl) (laid_met os _)) ?_
  intro W base args ds gs before hval0 hW _ hsz0 hL _
  have hval : ∀ (j : Nat) t v, Tryd.f7.params[j]? = some t → args[j]? = some v → Value.okWide Tryd.prog W .any base t v := hval0
  have hW' := hW
  obtain ⟨p, q, hA0, hV, rfl, hfz, hnd⟩ := hW
  have hA : DataW.TrodAll enc Tryd.prog W 0 (fun _ => true) true Tryd.f7.params.toList args.toList ds p := hA0
  have hsz : (DataW.weightsEach Tryd.prog (Tryd.f7.params.toList ++ Rows.wavJoinedSpec.plain.varTypes Tryd.prog) (ds ++ gs)).all (· ≤ reachBytes) = true := hsz0
  rw [Tryd.params7] at hA hval hsz
  obtain ⟨v0, vs0, d0, ds0, p0, q0, hargs, rfl, rfl, h0, r0⟩ := trodAll_cons hA
  obtain ⟨v1, vs1, d1, ds1, p1, q1, rfl, rfl, rfl, h1, r1⟩ := trodAll_cons r0
  obtain ⟨v2, vs2, d2, ds2, p2, q2, rfl, rfl, rfl, h2, r2⟩ := trodAll_cons r1
  obtain ⟨rfl, rfl, rfl⟩ := trodAll_nil r2
  obtain rfl : args = #[v0, v1, v2] := by cases args; simp_all
  obtain ⟨rfl, rfl⟩ := trodVars_none hV
  obtain ⟨a0, rfl, rfl, rfl, w0⟩ := open_string Tryd.underlying9 (hval 0 9 v0 rfl rfl) h0
  have z0 := sized_string hsz (j := 0) (t := 9) (bytes := a0.data.toList) rfl rfl
  have k1 := h1
  have lt1 : ∀ x ∈ p1, x.block < W.heap.size := by obtain ⟨m, hm⟩ := k1; exact DataW.trod_lt m _ _ _ hm
  obtain ⟨oa1, ol1, oc1, rfl⟩ := okWide_slice Tryd.underlying23 (hval 1 23 v1 rfl rfl)
  obtain ⟨m1, t1⟩ := h1
  obtain ⟨A1, len1, cap1, l1, he1, hl1, hll1, hst1⟩ := open_chk t1
  rw [he1] at hW' k1 ⊢
  obtain ⟨a2, rfl, rfl, rfl, w2⟩ := open_int Tryd.underlying3 (hval 2 3 v2 rfl rfl) h2
  clear hA0 hval0
  try simp only [List.append_nil] at hW'
  refine (walk a0 (str_le z0) A1 len1 cap1 hl1 l1 hll1 a2 w2 W hst1 (nil_cap t1 he1) (wid_of hL)).mono fun e W' ⟨he, bel⟩ => ?_
  subst he
  exact ⟨_, rfl, _, _, _, [], _, [], hW', trodAll_mk1 (shut_bool Tryd.underlying4 _), (trodAll_cons_mk (shut_string Tryd.underlying9 w0) (trodAll_cons_mk (Below.trod laidOut (by kernel_rfl) (of_decide_eq_true (by kernel_rfl)) k1 bel lt1) (trodAll_cons_mk (shut_int Tryd.underlying3 w2) trodAll_mk0))), rfl, Below.frame bel _, fun h => by cases h⟩

theorem holds : Rows.WavJoinedSaid :=
  OpenClaim.holds_of_wide 7 Tryd.f7 rfl rfl rfl rfl rfl rfl rfl ⟨rfl, rfl, rfl, rfl, rfl⟩ rfl rfl rfl rfl rfl (by kernel_rfl) Tryd.func7 (by kernel_rfl)
    (of_decide_eq_true (by kernel_rfl)) (by unfold Func.isWrapper; first | (rw [if_pos (by decide +kernel)]; kernel_rfl) | (rw [if_neg (by decide +kernel)]; exact ⟨rfl, rfl⟩))
    (fun os started H enc _ => lifted os started H enc)

theorem proved : Rows.WavJoinedCardSaid :=
  Claim7.holds_tied_plain_at .later [] [.data] true _ false
    holds (fun _ h => by cases h) (by kernel_rfl) (fun _ h => by cases h) wavJoined_row_tie rfl ⟨rfl, rfl⟩ (by kernel_rfl) rfl
    (fun f fn hf hfn => by
      obtain rfl : f = 7 := Option.some.inj ((show Tryd.prog.funcNamed "mortise/mortiselaw19.WavJoined" = some 7 by kernel_rfl).symm.trans hf) |>.symm
      obtain rfl : fn = Tryd.f7 := (Option.some.inj (Tryd.func7.symm.trans hfn)).symm
      exact ⟨by kernel_rfl, fun j t ht => by
        rw [Tryd.params7] at ht
        have hm : t ∈ [9, 23, 3] := by simpa using Array.mem_of_getElem? ht
        have hall : ([9, 23, 3].all fun u => !Tryd.prog.wantsStandIn u) = true := by kernel_rfl
        exact (show Tryd.prog.wantsStandIn t = false by simpa using List.all_eq_true.1 hall t hm)⟩)
    (by kernel_rfl)
end Go.Proofs.YtgkgimfdbkpbdaaDoor.wavJoined
