/- WavWrites returns true for every sound, and changes nothing that was there; no condition but that the listed variable holds what the program's text lays. -/
import Derived.Test.YtgkgimfdbkpbdaaDoorWavTb
import Derived.Test.YtgkgimfdbkpbdaaDoorWavW
namespace Go.Proofs.YtgkgimfdbkpbdaaDoor.wavWrites
open Go.ChangeShapes Go.WideShapes Go.ChangeAt Go.WideMaps Go.WideElems Go.RowKit
open Go.ChangeMaps (open_string shut_string)
set_option linter.unusedVariables false
set_option linter.unusedSimpArgs false
set_option maxRecDepth 100000 in
set_option maxHeartbeats 8000000 in
theorem walk (ch rate bits : Int) (fr : ByteArray) (hz : fr.size ≤ 140737488351232) (A : Option Addr) (len cap : Nat) (hlen : len ≤ 9223372036854775807) (l : List ChkR) (hll : l.length = len) (w : World) (hst : ChkAt w A l) (hnc : A = none → cap = 0) (hw : WidAt w) :
    Calls Tryd.prog 5 #[.agg #[.int .i64 ch, .int .i64 rate, .int .i64 bits, .string fr, .slice A len cap]] w fun e w' => e = .returned (.bool true) ∧ Bw w w' := by
  have HWD := hid hw
  have HST := hid hst
  have HB1 := hid ((Bw.refl w).alloc (.cells #[.int .i64 ch, .int .i64 rate, .int .i64 bits, .string fr, .slice A len cap] 34))
  have HX1 := hid (Has.new w 34 #[.int .i64 ch, .int .i64 rate, .int .i64 bits, .string fr, .slice A len cap])
  obtain ⟨na, hna⟩ : ∃ na, w.heap.size = na := ⟨_, rfl⟩
  rw [hna] at HX1
  by_cases hfz : 20000 < fr.size
  · have t1 : (20000 : Int) < fr.size := by omega
    clear hst hw hnc hfz
    go_enter Tryd.func5, Tryd.ntmps5
    go_upto_region 1 with fail
    generalize w.alloc (.cells #[.int .i64 ch, .int .i64 rate, .int .i64 bits, .string fr, .slice A len cap] 34) = w1 at *
    obtain ⟨x0, x1, x2, x3, x4⟩ := HX1.out.five
    go_wp2_with fail
    refine (live_any _ (HWD.out.bw HB1.out)).mono ?_
    rintro e wl ⟨rfl, hbl⟩
    have HBL := hid ((HB1.out).trans hbl)
    clear hbl
    go_wp2
    go_returns
    exact ⟨rfl, HBL.out⟩
  · have t1 : ¬ (20000 : Int) < fr.size := by omega
    have HSM := hid (fun W (h : ChkAt W A l) => small_any A len cap hlen l (hid hll) W h)
    cases hs : smallB l with
    | false =>
      rw [hs] at HSM
      clear hst hw hs hnc hfz
      go_enter Tryd.func5, Tryd.ntmps5
      go_upto_region 1 with fail
      generalize w.alloc (.cells #[.int .i64 ch, .int .i64 rate, .int .i64 bits, .string fr, .slice A len cap] 34) = w1 at *
      obtain ⟨x0, x1, x2, x3, x4⟩ := HX1.out.five
      go_wp2_with fail
      refine (HSM.out _ (HST.out.below HB1.out)).mono ?_
      rintro e w2 ⟨rfl, hb2⟩
      have HB2 := hid (HB1.out.trans hb2)
      clear hb2
      go_wp2_with fail
      refine (live_any _ (HWD.out.bw HB2.out)).mono ?_
      rintro e wl ⟨rfl, hbl⟩
      have HBL := hid ((HB2.out).trans hbl)
      clear hbl
      go_wp2
      go_returns
      exact ⟨rfl, HBL.out⟩
    | true =>
      rw [hs] at HSM
      have h40 := (small_all hs).1
      have h50 := (small_all hs).2
      have hl40 : len ≤ 40 := by omega
      have hno := chk_none hst hll hnc
      have HW0 := hid (fun W (h : ChkAt W A l) (hW : WidAt W) => (show Calls Tryd.prog 16 #[.agg #[.int .i64 ch, .int .i64 rate, .int .i64 bits, .string fr, .slice A len cap]] W fun e w' => e = .returned (.tuple #[.string (writeP ⟨ch, rate, bits, fr, l⟩).1, .int .i64 (writeP ⟨ch, rate, bits, fr, l⟩).2]) ∧ Bw W w' from wwrite_any ⟨ch, rate, bits, fr, l⟩ (by show fr.size ≤ 20000; omega) h40 h50 A len cap hll hno W h hW))
      have HRW := hid (fun W (h : ChkAt W A l) => rwrite_any ch rate bits fr (by omega) A len cap l hll h40 h50 hno W h)
      obtain ⟨⟨P, E⟩, hP⟩ : ∃ x, writeP ⟨ch, rate, bits, fr, l⟩ = x := ⟨_, rfl⟩
      rw [hP] at HW0 HRW
      clear hst hw hs hnc hfz h40 h50 hP
      go_enter Tryd.func5, Tryd.ntmps5
      go_upto_region 1 with fail
      generalize w.alloc (.cells #[.int .i64 ch, .int .i64 rate, .int .i64 bits, .string fr, .slice A len cap] 34) = w1 at *
      obtain ⟨x0, x1, x2, x3, x4⟩ := HX1.out.five
      go_wp2_with fail
      refine (HSM.out _ (HST.out.below HB1.out)).mono ?_
      rintro e w2 ⟨rfl, hb2⟩
      have HB2 := hid (HB1.out.trans hb2)
      have HX2 := hid (hb2.has HX1.out)
      clear hb2 x0 x1 x2 x3 x4
      obtain ⟨x0, x1, x2, x3, x4⟩ := HX2.out.five
      go_wp2_with fail
      refine (HW0.out _ (HST.out.below HB2.out) (HWD.out.bw HB2.out)).mono ?_
      rintro e w3 ⟨rfl, hb3⟩
      have HB3 := hid (HB2.out.trans hb3)
      have HX3 := hid (hb3.has HX2.out)
      clear hb3 x0 x1 x2 x3 x4
      obtain ⟨x0, x1, x2, x3, x4⟩ := HX3.out.five
      go_wp2_with fail
      refine (HRW.out _ (HST.out.below HB3.out)).mono ?_
      rintro e w4 ⟨rfl, hb4⟩
      have HB4 := hid (HB3.out.trans hb4)
      clear hb4
      go_wp2_with fail
      refine (live_any _ (HWD.out.bw HB4.out)).mono ?_
      rintro e wl ⟨rfl, hbl⟩
      have HBL := hid ((HB4.out).trans hbl)
      clear hbl
      go_wp2
      go_returns
      exact ⟨rfl, HBL.out⟩

/-! The frame: from the walk to the statement. -/
set_option maxRecDepth 100000 in
theorem lifted (os : Os) (started : os.Started) (H : Type) (enc : TypeId × Value → H) :
    ReturnsInHanded {} Tryd.checked os 5 .any (fun w args => (Rows.wavWritesSpec.pre enc Tryd.prog Tryd.f5 [] false w args ∧ laidMetH Tryd.prog Rows.wavSplitsRow.laid w) ∧ sizedMet enc Tryd.prog Tryd.f5 (OpenSpec.ofChange Rows.wavWritesSpec) false w args)
      (Rows.wavWritesSpec.post enc Tryd.prog Tryd.f5 false true false false) := by
  refine returnsInHanded_of_change_and (C := Tryd.checked) (X := fun w _ => laidMetH Tryd.prog Rows.wavSplitsRow.laid w) (fun _ _ _ hh h => h.of_heap hh) own started (by kernel_rfl) Tryd.func5
    (ChangeSpec.witness_shaped (enc := enc) (C := Tryd.checked) (os := os) (X := fun w _ => laidMetH Tryd.prog Rows.wavSplitsRow.laid w) false (World.laidAll Tryd.prog os Rows.wavSplitsRow.laid) #[.agg #[.int .i64 0, .int .i64 0, .int .i64 0, .string ⟨#[]⟩, .slice none 0 0]] 8 (World.laidAll_os _ _ _) (World.shaped_of_ZipB (by kernel_rfl) (by kernel_rfl)) (by kernel_rfl) (by kernel_rfl) (by kernel_rfl) (laid_met os _)) ?_
  intro W base args ds gs before hval0 hW _ hsz0 hL _
  have hval : ∀ (j : Nat) t v, Tryd.f5.params[j]? = some t → args[j]? = some v → Value.okWide Tryd.prog W .any base t v := hval0
  have hW' := hW
  obtain ⟨p, q, hA0, hV, rfl, hfz, hnd⟩ := hW
  have hA : DataW.TrodAll enc Tryd.prog W 0 (fun _ => true) true Tryd.f5.params.toList args.toList ds p := hA0
  have hsz : (DataW.weightsEach Tryd.prog (Tryd.f5.params.toList ++ Rows.wavWritesSpec.plain.varTypes Tryd.prog) (ds ++ gs)).all (· ≤ reachBytes) = true := hsz0
  rw [Tryd.params5] at hA hval hsz
  obtain ⟨v0, vs0, d0, ds0, p0, q0, hargs, rfl, rfl, h0, r0⟩ := trodAll_cons hA
  obtain ⟨rfl, rfl, rfl⟩ := trodAll_nil r0
  obtain rfl : args = #[v0] := by cases args; simp_all
  obtain ⟨rfl, rfl⟩ := trodVars_none hV
  have k0 := h0
  have lt0 : ∀ x ∈ p0, x.block < W.heap.size := by obtain ⟨m, hm⟩ := k0; exact DataW.trod_lt m _ _ _ hm
  obtain ⟨cs0, fd0, rfl, hlen0, rfl, hdl0, hf0⟩ := open_struct Tryd.underlying34 (by kernel_rfl) (by kernel_rfl) (hval 0 34 v0 rfl rfl) h0
  obtain ⟨x00, c00, _, _⟩ := hf0.int 0 rfl Tryd.underlying3
  obtain ⟨x01, c01, _, _⟩ := hf0.int 1 rfl Tryd.underlying3
  obtain ⟨x02, c02, _, _⟩ := hf0.int 2 rfl Tryd.underlying3
  obtain ⟨x03, c03, e03⟩ := hf0.string 3 rfl Tryd.underlying9
  have z0 := string_reach hsz (j := 0) (i := 3) rfl rfl Tryd.underlying34 rfl e03
  obtain ⟨u0, y0, n0, c04, _, t0⟩ := hf0 4 _ rfl
  obtain ⟨A0, len0, cap0, l0, he0, hl0, hll0, hst0⟩ := open_chk t0
  have nc0 := nil_cap t0 he0
  subst he0
  obtain rfl := list5 hlen0 c00 c01 c02 c03 c04
  clear hA0 hval0
  try simp only [List.append_nil] at hW'
  refine (walk x00 x01 x02 x03 z0 A0 len0 cap0 hl0 l0 hll0 W hst0 nc0 (wid_of hL)).mono fun e W' ⟨he, bel⟩ => ?_
  subst he
  exact ⟨_, rfl, _, _, _, [], _, [], hW', trodAll_mk1 (shut_bool Tryd.underlying4 _), (trodAll_cons_mk (Below.trod laidOut (by kernel_rfl) (of_decide_eq_true (by kernel_rfl)) k0 bel lt0) trodAll_mk0), rfl, Below.frame bel _, fun h => by cases h⟩

theorem holds : Rows.WavWritesSaid :=
  OpenClaim.holds_of_wide 5 Tryd.f5 rfl rfl rfl rfl rfl rfl rfl ⟨rfl, rfl, rfl, rfl, rfl⟩ rfl rfl rfl rfl rfl (by kernel_rfl) Tryd.func5 (by kernel_rfl)
    (of_decide_eq_true (by kernel_rfl)) (by unfold Func.isWrapper; first | (rw [if_pos (by decide +kernel)]; kernel_rfl) | (rw [if_neg (by decide +kernel)]; exact ⟨rfl, rfl⟩))
    (fun os started H enc _ => lifted os started H enc)

theorem proved : Rows.WavWritesCardSaid :=
  Claim7.holds_tied_plain_at .later [] [.data] true _ false
    holds (fun _ h => by cases h) (by kernel_rfl) (fun _ h => by cases h) wavWrites_row_tie rfl ⟨rfl, rfl⟩ (by kernel_rfl) rfl
    (fun f fn hf hfn => by
      obtain rfl : f = 5 := Option.some.inj ((show Tryd.prog.funcNamed "mortise/mortiselaw19.WavWrites" = some 5 by kernel_rfl).symm.trans hf) |>.symm
      obtain rfl : fn = Tryd.f5 := (Option.some.inj (Tryd.func5.symm.trans hfn)).symm
      exact ⟨by kernel_rfl, fun j t ht => by
        rw [Tryd.params5] at ht
        have hm : t ∈ [34] := by simpa using Array.mem_of_getElem? ht
        have hall : ([34].all fun u => !Tryd.prog.wantsStandIn u) = true := by kernel_rfl
        exact (show Tryd.prog.wantsStandIn t = false by simpa using List.all_eq_true.1 hall t hm)⟩)
    (by kernel_rfl)
end Go.Proofs.YtgkgimfdbkpbdaaDoor.wavWrites
