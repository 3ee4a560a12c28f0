/- DeflateFixed returns true for every list of tokens, and changes nothing that was there; no condition but that the listed table holds what the program's text lays. -/
import Derived.Test.YtaggoiikkdlbdaaDoorDefTb
import Derived.Test.YtaggoiikkdlbdaaDoorDzG
import Derived.Test.YtaggoiikkdlbdaaDoorLawKit
import Derived.ShutString
import Derived.ChangeOld
import Derived.SizedLaws
namespace Go.Proofs.YtaggoiikkdlbdaaDoor.deflateFixed
open Go.ChangeShapes Go.WideShapes Go.ChangeAt Go.WideMaps Go.WideElems Go.RowKit
open Go.ChangeMaps (open_string shut_string)
set_option linter.unusedVariables false
set_option maxRecDepth 100000 in
set_option maxHeartbeats 8000000 in
theorem big (a : Option Addr) (len cap : Nat) (hlen : len ≤ 9223372036854775807) (l : List TokR) (hll : Hid (l.length = len)) (h : ¬ len ≤ 1000) (w : World) (hst : ToksAt w a l) (ht : OrdAt w) :
    Calls Tryd.prog 4 #[.slice a len cap] w fun e w' => e = .returned (.bool true) ∧ Bw w w' := by
  have t1 : decide ((1000 : Int) < len) = true := decide_eq_true (by omega)
  have t2 : decide (1000 < len) = true := decide_eq_true (by omega)
  have HT := hid ht
  clear ht
  clear h hst
  go_enter Tryd.func4, Tryd.ntmps4
  go_wp2_with fail
  refine (live_any w HT.out).mono ?_
  rintro e wl ⟨rfl, hbl⟩
  have HBL := hid hbl
  clear hbl
  go_wp2
  go_returns
  exact ⟨rfl, HBL.out⟩
set_option maxRecDepth 100000 in
set_option maxHeartbeats 8000000 in
theorem small (a : Option Addr) (len cap : Nat) (hlen : len ≤ 9223372036854775807) (l : List TokR) (hll : Hid (l.length = len)) (h : len ≤ 1000) (w : World) (hst : ToksAt w a l) (ht : OrdAt w) :
    Calls Tryd.prog 4 #[.slice a len cap] w fun e w' => e = .returned (.bool true) ∧ Bw w w' := by
  have t1 : decide ((1000 : Int) < len) = false := decide_eq_false (by omega)
  have t2 : decide (1000 < len) = false := decide_eq_false (by omega)
  have HT := hid ht
  have HR := hid (fun W (h : Bw w W) => rFixed_any a len cap (by omega) l hll W (hst.below h))
  cases hok : costOk l with
  | true =>
    have HF := hid (Fixed_ok a len cap (by omega) l hll hok w hst)
    rw [hok] at HR
    generalize outS (fixP l) = st at *
    clear ht h hst hok
    go_enter Tryd.func4, Tryd.ntmps4
    go_wp2_with fail
    refine HF.out.mono ?_
    rintro e w1 ⟨rfl, hb1⟩
    have HB1 := hid hb1
    clear hb1
    go_wp2_with fail
    refine (HR.out w1 HB1.out).mono ?_
    rintro e w2 ⟨hc, hb2⟩
    have HB2 := hid (HB1.out.trans hb2)
    have HT2 := hid (HT.out.bw HB2.out)
    clear hb2
    rcases hc with ⟨_, rfl⟩ | ⟨h0, _⟩
    · skip
      go_wp2_with fail
      refine (live_any w2 HT2.out).mono ?_
      rintro e wl ⟨rfl, hbl⟩
      have HBL := hid hbl
      clear hbl
      go_wp2
      go_returns
      exact ⟨rfl, HB2.out.trans HBL.out⟩
    · exact absurd h0 (by decide)
  | false =>
    have HF := hid (Fixed_bad a len cap (by omega) l hll hok w hst)
    rw [hok] at HR
    clear ht h hst hok
    go_enter Tryd.func4, Tryd.ntmps4
    go_wp2_with fail
    refine HF.out.mono ?_
    rintro e w1 ⟨rfl, hb1⟩
    have HB1 := hid hb1
    clear hb1
    go_wp2_with fail
    refine (HR.out w1 HB1.out).mono ?_
    rintro e w2 ⟨hc, hb2⟩
    have HB2 := hid (HB1.out.trans hb2)
    have HT2 := hid (HT.out.bw HB2.out)
    clear hb2
    rcases hc with ⟨h0, _⟩ | ⟨_, rfl⟩
    · exact absurd h0 (by decide)
    · skip
      go_wp2_with fail
      refine (live_any w2 HT2.out).mono ?_
      rintro e wl ⟨rfl, hbl⟩
      have HBL := hid hbl
      clear hbl
      go_wp2
      go_returns
      exact ⟨rfl, HB2.out.trans HBL.out⟩
theorem walk (a : Option Addr) (len cap : Nat) (hlen : len ≤ 9223372036854775807) (l : List TokR) (hll : Hid (l.length = len)) (w : World) (hst : ToksAt w a l) (hh : OrdAt w) :
    Calls Tryd.prog 4 #[.slice a len cap] w fun e w' => e = .returned (.bool true) ∧ Bw w w' := by
  by_cases h : len ≤ 1000
  · exact small a len cap hlen l hll h w hst hh
  · exact big a len cap hlen l hll h w hst hh

/-! The frame: from the walk to the statement. -/
set_option maxRecDepth 100000 in
theorem lifted (os : Os) (started : os.Started) (H : Type) (enc : TypeId × Value → H) :
    ReturnsInHanded {} Tryd.checked os 4 .any (fun w args => (Rows.deflateFixedSpec.pre enc Tryd.prog Tryd.f4 [] false w args ∧ laidMetH Tryd.prog Rows.deflateStoredRow.laid w) ∧ sizedMet enc Tryd.prog Tryd.f4 (OpenSpec.ofChange Rows.deflateFixedSpec) false w args)
      (Rows.deflateFixedSpec.post enc Tryd.prog Tryd.f4 false true false false) := by
  refine returnsInHanded_of_change_and (C := Tryd.checked) (X := fun w _ => laidMetH Tryd.prog Rows.deflateStoredRow.laid w) (fun _ _ _ hh h => h.of_heap hh) own started (by kernel_rfl) Tryd.func4
    (ChangeSpec.witness_shaped (enc := enc) (C := Tryd.checked) (os := os) (X := fun w _ => laidMetH Tryd.prog Rows.deflateStoredRow.laid w) false (World.doorLaid Tryd.prog 400 os) #[.slice none 0 0] 8 rfl (World.shaped_of_RefB (by kernel_rfl) (by kernel_rfl)) (by kernel_rfl) (by kernel_rfl) (by kernel_rfl) (door_met os _)) ?_
  intro W base args ds gs before hval0 hW _ hsz0 hL _
  have hval : ∀ (j : Nat) t v, Tryd.f4.params[j]? = some t → args[j]? = some v → Value.okWide Tryd.prog W .any base t v := hval0
  have hW' := hW
  obtain ⟨p, q, hA0, hV, rfl, hfz, hnd⟩ := hW
  have hA : DataW.TrodAll enc Tryd.prog W 0 (fun _ => true) true Tryd.f4.params.toList args.toList ds p := hA0
  have hsz : (DataW.weightsEach Tryd.prog (Tryd.f4.params.toList ++ Rows.deflateFixedSpec.plain.varTypes Tryd.prog) (ds ++ gs)).all (· ≤ reachBytes) = true := hsz0
  rw [Tryd.params4] at hA hval hsz
  obtain ⟨v0, vs0, d0, ds0, p0, q0, hargs, rfl, rfl, h0, r0⟩ := trodAll_cons hA
  obtain ⟨rfl, rfl, rfl⟩ := trodAll_nil r0
  obtain rfl : args = #[v0] := by cases args; simp_all
  obtain ⟨rfl, rfl⟩ := trodVars_none hV
  have k0 := h0
  have lt0 : ∀ x ∈ p0, x.block < W.heap.size := by obtain ⟨m, hm⟩ := k0; exact DataW.trod_lt m _ _ _ hm
  obtain ⟨oa0, ol0, oc0, rfl⟩ := okWide_slice Tryd.underlying25 (hval 0 25 v0 rfl rfl)
  obtain ⟨m0, t0⟩ := h0
  obtain ⟨A0, len0, cap0, l0, he0, hl0, hll0, hst0⟩ := open_toks t0
  rw [he0] at hW' k0 ⊢
  clear hA0 hval0
  try simp only [List.append_nil] at hW'
  refine (walk A0 len0 cap0 hl0 l0 hll0 W hst0 (ord_of hL)).mono fun e W' ⟨he, bel⟩ => ?_
  subst he
  exact ⟨_, rfl, _, _, _, [], _, [], hW', trodAll_mk1 (shut_bool Tryd.underlying4 _), (trodAll_cons_mk (Below.trod laidOut (by kernel_rfl) (of_decide_eq_true (by kernel_rfl)) k0 bel lt0) trodAll_mk0), rfl, Below.frame bel _, fun h => by cases h⟩

theorem holds : Rows.DeflateFixedSaid :=
  OpenClaim.holds_of_wide 4 Tryd.f4 rfl rfl rfl rfl rfl rfl rfl ⟨rfl, rfl, rfl, rfl, rfl⟩ rfl rfl rfl rfl rfl (by kernel_rfl) Tryd.func4 (by kernel_rfl)
    (of_decide_eq_true (by kernel_rfl)) (by unfold Func.isWrapper; first | (rw [if_pos (by decide +kernel)]; kernel_rfl) | (rw [if_neg (by decide +kernel)]; exact ⟨rfl, rfl⟩))
    (fun os started H enc _ => lifted os started H enc)

theorem proved : Rows.DeflateFixedCardSaid :=
  Claim7.holds_tied_plain_at .later [] [.data] true _ false
    holds (fun _ h => by cases h) (by kernel_rfl) (fun _ h => by cases h) deflateFixed_row_tie rfl ⟨rfl, rfl⟩ (by kernel_rfl) rfl
    (fun f fn hf hfn => by
      obtain rfl : f = 4 := Option.some.inj ((show Tryd.prog.funcNamed "mortise/mortiselaw09.DeflateFixed" = some 4 by kernel_rfl).symm.trans hf) |>.symm
      obtain rfl : fn = Tryd.f4 := (Option.some.inj (Tryd.func4.symm.trans hfn)).symm
      exact ⟨by kernel_rfl, fun j t ht => by
        rw [Tryd.params4] at ht
        have hm : t ∈ [25] := by simpa using Array.mem_of_getElem? ht
        have hall : ([25].all fun u => !Tryd.prog.wantsStandIn u) = true := by kernel_rfl
        exact (show Tryd.prog.wantsStandIn t = false by simpa using List.all_eq_true.1 hall t hm)⟩)
    (by kernel_rfl)
end Go.Proofs.YtaggoiikkdlbdaaDoor.deflateFixed
