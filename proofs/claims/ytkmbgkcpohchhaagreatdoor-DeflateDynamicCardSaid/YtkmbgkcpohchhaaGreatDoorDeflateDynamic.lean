/- DeflateDynamic returns true for every list of tokens, and changes nothing that was there; no condition but that the listed table holds what the program's text lays. -/
import Derived.Test.YtkmbgkcpohchhaaGreatDoorDefTb
import Derived.Test.YtkmbgkcpohchhaaGreatDoorDecG
import Derived.Test.YtkmbgkcpohchhaaGreatDoorMatGz
import Derived.Test.YtkmbgkcpohchhaaGreatDoorGDzM
import Derived.Test.YtkmbgkcpohchhaaGreatDoorGRefJ
import Derived.Test.YtkmbgkcpohchhaaGreatDoorGHufLeT
import Derived.ShutString
import Derived.ChangeOld
import Derived.SizedLaws
namespace Go.Proofs.YtkmbgkcpohchhaaGreatDoor.deflateDynamic
open Go.ChangeShapes Go.WideShapes Go.ChangeAt Go.WideMaps Go.WideElems Go.RowKit
open Go.ChangeMaps (open_string shut_string)
set_option linter.unusedVariables false
set_option maxRecDepth 100000 in
set_option maxHeartbeats 8000000 in
theorem big (a : Option Addr) (len cap : Nat) (hlen : len ≤ 9223372036854775807) (l : List TokR) (hll : Hid (l.length = len)) (h : ¬ len ≤ 300) (w : World) (hst : ToksAt w a l) (ht : OrdAt w) :
    Calls Tryz.prog 3 #[.slice a len cap] w fun e w' => e = .returned (.bool true) ∧ Bw w w' := by
  have t1 : decide ((300 : Int) < len) = true := decide_eq_true (by omega)
  have t2 : decide (300 < len) = true := decide_eq_true (by omega)
  have HT := hid ht
  clear ht
  clear h hst
  go_enter Tryz.func3, Tryz.ntmps3
  go_wp2_with fail
  refine (live_any w HT.out).mono ?_
  rintro e wl ⟨rfl, hbl⟩
  have HBL := hid hbl
  clear hbl
  go_wp2
  go_returns
  exact ⟨rfl, HBL.out⟩
set_option maxRecDepth 100000 in
set_option maxHeartbeats 8000000 in
theorem bad (a : Option Addr) (len cap : Nat) (hlen : len ≤ 9223372036854775807) (l : List TokR) (hll : Hid (l.length = len)) (h : len ≤ 300) (hok : costOk l = false) (w : World) (hst : ToksAt w a l) (ht : OrdAt w) :
    Calls Tryz.prog 3 #[.slice a len cap] w fun e w' => e = .returned (.bool true) ∧ Bw w w' := by
  have t1 : decide ((300 : Int) < len) = false := decide_eq_false (by omega)
  have t2 : decide (300 < len) = false := decide_eq_false (by omega)
  have HT := hid ht
  have HF := hid (Dynamic_bad a len cap (by omega) l hll hok w hst)
  have HST := hid hst
  have HOK := hid hok
  clear ht hst hok
  go_enter Tryz.func3, Tryz.ntmps3
  go_wp2_with fail
  refine HF.out.mono ?_
  rintro e w1 ⟨rfl, hb1⟩
  have HB1 := hid hb1
  clear hb1
  go_wp2_with fail
  go_loopw [5, 6] (fun i _ wr => ∃ k : Nat, k ≤ len ∧ i = .int .i64 k ∧ Hid (∀ i (hl : i < l.length), i < k → tokOk l[i] = true) ∧ Bw w wr) (fun i _ _ => len - (intOf i).toNat)
  case atStart => exact ⟨0, Nat.zero_le _, rfl, hid (fun i hl h => absurd h (by omega)), HB1.out⟩
  case round =>
    rename World => wr
    obtain ⟨k, hk, rfl, HA, hb⟩ := hrel
    have HB := hid hb
    clear hb
    by_cases hlt : k < len
    · have hkl : k < l.length := by rw [hll.out]; exact hlt
      have hk1 : (k : Int) < len := by omega
      obtain ⟨b, off, rfl, hbb, c0, c1, c2, hv⟩ := HST.out.below HB.out k hkl
      have HA2 := hid (fun (h : tokOk l[k] = true) i (hl : i < l.length) (hi : i < k + 1) => (show tokOk l[i] = true from by
        by_cases e : i < k
        · exact HA.out i hl e
        · obtain rfl : i = k := by omega
          exact h))
      have HAB := hid (fun (h : tokOk l[k] = false) => (show costOk l = false from by
        unfold costOk
        rw [List.all_eq_false]
        exact ⟨l[k], List.getElem_mem _, by rw [h]; decide⟩))
      obtain ⟨x0, x1, x2, hx⟩ : ∃ x0 x1 x2, l[k] = ⟨x0, x1, x2⟩ := ⟨_, _, _, rfl⟩
      rw [hx] at c0 c1 c2 hv HA2 HAB
      simp only at c0 c1 c2
      have HM := hid (may_any x0 x1 x2 wr)
      clear hx hkl hbb
      cases htk : tokOk ⟨x0, x1, x2⟩ with
      | true =>
        rw [htk] at HM
        have HA3 := hid (HA2.out htk)
        clear HA2 HAB htk
        go_wp2_with fail
        refine HM.out.mono ?_
        rintro e w2 ⟨rfl, hb2⟩
        have HB2 := hid (HB.out.trans hb2)
        clear hb2
        go_wp2
        exact ⟨⟨k + 1, by omega, by go_num, HA3, HB2.out⟩, by simp [intOf]; omega⟩
      | false =>
        rw [htk] at HM
        clear HA2 HAB htk
        go_wp2_with fail
        refine HM.out.mono ?_
        rintro e w2 ⟨rfl, hb2⟩
        have HB2 := hid (HB.out.trans hb2)
        have HT2 := hid (HT.out.bw HB2.out)
        clear hb2
        go_wp2_with fail
        refine (live_any w2 HT2.out).mono ?_
        rintro e wl ⟨rfl, hbl⟩
        have HBL := hid hbl
        clear hbl
        go_wp2
        go_returns
        exact ⟨rfl, HB2.out.trans HBL.out⟩
    · obtain rfl : k = len := by omega
      have hall : costOk l = true := List.all_eq_true.2 fun t ht => by
        obtain ⟨i, hi, rfl⟩ := List.getElem_of_mem ht
        exact HA.out i hi (by have := hll.out; omega)
      rw [HOK.out] at hall
      cases hall
set_option maxRecDepth 100000 in
set_option maxHeartbeats 8000000 in
theorem good (a : Option Addr) (len cap : Nat) (hlen : len ≤ 9223372036854775807) (l : List TokR) (hll : Hid (l.length = len)) (h : len ≤ 300) (hok : costOk l = true) (w : World) (hst : ToksAt w a l) (ht : OrdAt w) :
    Calls Tryz.prog 3 #[.slice a len cap] w fun e w' => e = .returned (.bool true) ∧ Bw w w' := by
  have t1 : decide ((300 : Int) < len) = false := decide_eq_false (by omega)
  have t2 : decide (300 < len) = false := decide_eq_false (by omega)
  have HT := hid ht
  have hlit := toks_lit hst
  have HF := hid (Dynamic_ok a len cap (by omega) l hll hok w hst ht)
  have HST := hid hst
  have HOK := hid hok
  have HEX := hid (fun (r : Int) (o : List UInt8) (he : expGo 1073741824 l [] = (r, o)) => (⟨show expE l 1073741824 = r by unfold expE; rw [if_pos (by decide), he], show expS l 1073741824 = ⟨o.toArray⟩ by unfold expS; rw [if_pos (by decide), he]⟩ : expE l 1073741824 = r ∧ expS l 1073741824 = ⟨o.toArray⟩))
  have hB := dyn_first hok hlit
  have hz : (outS (dynP l)).size ≤ 1000000 := by
    have h1 := hdrP_le (IsCode.of_check (ownL_check l)) (IsCode.of_check (ownD_check l))
    have h2 := toks_le (IsCode.of_check (ownL_check l)) (IsCode.of_check (ownD_check l)) l hok hlit
    have h3 := symP_le (IsCode.of_check (ownL_check l)) (s := ⟨256, 0, 0⟩) (by decide)
    have h4 := hll.out
    rw [outS_size]
    unfold dynP toksP
    rw [pcK, pcK_app, pcK_app]
    simp only
    omega
  have HDI := hid (fun (want : List UInt8) (he : expGo 1073741824 l [] = (0, want)) (hw : want.length ≤ 1073741824) (a : ByteArray) (n er : Int) (h : InfR (outS (dynP l)) want.length a n er) => dyn_inf hok hlit he hw h)
  generalize outS (dynP l) = st at *
  obtain ⟨h0, h5⟩ := hB
  have tz : ((st.size : Int) == 0) = false := by rw [beq_eq_false_iff_ne]; omega
  have h0i : (0 : Int) < st.size := by omega
  have HRI := hid (fun (L : Int) W => rinflate_any st (by omega) L W)
  have HXP := hid (fun W (hW : Bw w W) => rexp_any a len cap (by omega) l hll 1073741824 W (hst.below hW))
  have HBY := hid (show ((((st[0]'h0).toNat : Nat) : Int) % 8 != 5) = false by
    have h6 : (((st[0]'h0).toNat : Nat) : Int) % 8 = 5 := by omega
    rw [h6]; decide)
  clear ht hst hok hlit h5
  go_enter Tryz.func3, Tryz.ntmps3
  go_wp2_with fail
  refine HF.out.mono ?_
  rintro e w1 ⟨rfl, hb1⟩
  have HB1 := hid hb1
  clear hb1
  go_wp2_with fail
  go_loopw [5, 6] (fun i _ wr => ∃ k : Nat, k ≤ len ∧ i = .int .i64 k ∧ Hid (∀ i (hl : i < l.length), i < k → tokOk l[i] = true) ∧ Bw w wr) (fun i _ _ => len - (intOf i).toNat)
  case atStart => exact ⟨0, Nat.zero_le _, rfl, hid (fun i hl h => absurd h (by omega)), HB1.out⟩
  case round =>
    rename World => wr
    obtain ⟨k, hk, rfl, HA, hb⟩ := hrel
    have HB := hid hb
    clear hb
    by_cases hlt : k < len
    · have hkl : k < l.length := by rw [hll.out]; exact hlt
      have hk1 : (k : Int) < len := by omega
      obtain ⟨b, off, rfl, hbb, c0, c1, c2, hv⟩ := HST.out.below HB.out k hkl
      have HA2 := hid (fun (h : tokOk l[k] = true) i (hl : i < l.length) (hi : i < k + 1) => (show tokOk l[i] = true from by
        by_cases e : i < k
        · exact HA.out i hl e
        · obtain rfl : i = k := by omega
          exact h))
      have HAB := hid (fun (h : tokOk l[k] = false) => (show costOk l = false from by
        unfold costOk
        rw [List.all_eq_false]
        exact ⟨l[k], List.getElem_mem _, by rw [h]; decide⟩))
      obtain ⟨x0, x1, x2, hx⟩ : ∃ x0 x1 x2, l[k] = ⟨x0, x1, x2⟩ := ⟨_, _, _, rfl⟩
      rw [hx] at c0 c1 c2 hv HA2 HAB
      simp only at c0 c1 c2
      have HM := hid (may_any x0 x1 x2 wr)
      clear hx hkl hbb
      cases htk : tokOk ⟨x0, x1, x2⟩ with
      | true =>
        rw [htk] at HM
        have HA3 := hid (HA2.out htk)
        clear HA2 HAB htk
        go_wp2_with fail
        refine HM.out.mono ?_
        rintro e w2 ⟨rfl, hb2⟩
        have HB2 := hid (HB.out.trans hb2)
        clear hb2
        go_wp2
        exact ⟨⟨k + 1, by omega, by go_num, HA3, HB2.out⟩, by simp [intOf]; omega⟩
      | false =>
        have := HAB.out htk
        rw [HOK.out] at this
        cases this
    · obtain rfl : k = len := by omega
      have hby := HBY.out
      go_wp2_with fail
      refine (HXP.out wr HB.out).mono ?_
      rintro e w3 ⟨rfl, hb3⟩
      have HB3 := hid (HB.out.trans hb3)
      have HT3 := hid (HT.out.bw HB3.out)
      clear hb3
      obtain ⟨r, o, he⟩ : ∃ r o, expGo 1073741824 l [] = (r, o) := ⟨_, _, rfl⟩
      obtain ⟨e1, e2⟩ := HEX.out r o he
      rw [e1, e2]
      by_cases hr : r = 0
      · subst hr
        obtain ⟨wl, hwl⟩ : ∃ wl, o.length = wl := ⟨_, rfl⟩
        have hsz : (⟨o.toArray⟩ : ByteArray).size = wl := hwl
        have HDJ := hid (HDI.out o he)
        rw [hwl] at HDJ
        clear he e1 e2 hwl
        generalize (⟨o.toArray⟩ : ByteArray) = want at *
        by_cases hbig : wl ≤ 20000
        · have tw : decide ((20000 : Int) < want.size) = false := decide_eq_false (by omega)
          have tw2 : decide (20000 < want.size) = false := decide_eq_false (by omega)
          have HDK := hid (HDJ.out (by omega))
          have HSZ := hid hsz
          clear hsz
          go_wp2_with fail
          rw [HSZ.out]
          refine (HRI.out _ w3).mono ?_
          rintro e w4 ⟨b, n, er, rfl, hr4, hb4⟩
          obtain ⟨rfl, rfl, rfl⟩ := HDK.out _ _ _ hr4
          have HB4 := hid (HB3.out.trans hb4)
          have HT4 := hid (HT.out.bw HB4.out)
          clear hr4 hb4
          go_wp2_with fail
          refine (live_any w4 HT4.out).mono ?_
          rintro e wl ⟨rfl, hbl⟩
          have HBL := hid hbl
          clear hbl
          go_wp2
          go_returns
          exact ⟨rfl, HB4.out.trans HBL.out⟩
        · have tw : decide ((20000 : Int) < want.size) = true := decide_eq_true (by omega)
          have tw2 : decide (20000 < want.size) = true := decide_eq_true (by omega)
          clear hsz
          go_wp2_with fail
          refine (live_any w3 HT3.out).mono ?_
          rintro e wl ⟨rfl, hbl⟩
          have HBL := hid hbl
          clear hbl
          go_wp2
          go_returns
          exact ⟨rfl, HB3.out.trans HBL.out⟩
      · have tr : (r != 0) = true := by simpa using hr
        clear he e1 e2 hr
        go_wp2_with fail
        refine (live_any w3 HT3.out).mono ?_
        rintro e wl ⟨rfl, hbl⟩
        have HBL := hid hbl
        clear hbl
        go_wp2
        go_returns
        exact ⟨rfl, HB3.out.trans HBL.out⟩
theorem walk (a : Option Addr) (len cap : Nat) (hlen : len ≤ 9223372036854775807) (l : List TokR) (hll : Hid (l.length = len)) (w : World) (hst : ToksAt w a l) (hh : OrdAt w) :
    Calls Tryz.prog 3 #[.slice a len cap] w fun e w' => e = .returned (.bool true) ∧ Bw w w' := by
  by_cases h : len ≤ 300
  · cases hok : costOk l with
    | true => exact good a len cap hlen l hll h hok w hst hh
    | false => exact bad a len cap hlen l hll h hok w hst hh
  · exact big a len cap hlen l hll h w hst hh

/-! The frame: from the walk to the statement. -/
set_option maxRecDepth 100000 in
theorem lifted (os : Os) (started : os.Started) (H : Type) (enc : TypeId × Value → H) :
    ReturnsInHanded {} Tryz.checked os 3 .any (fun w args => (Rows.deflateDynamicSpec.pre enc Tryz.prog Tryz.f3 [] false w args ∧ laidMetH Tryz.prog Rows.deflateDynamicRow.laid w) ∧ sizedMet enc Tryz.prog Tryz.f3 (OpenSpec.ofChange Rows.deflateDynamicSpec) false w args)
      (Rows.deflateDynamicSpec.post enc Tryz.prog Tryz.f3 false true false false) := by
  refine returnsInHanded_of_change_and (C := Tryz.checked) (X := fun w _ => laidMetH Tryz.prog Rows.deflateDynamicRow.laid w) (fun _ _ _ hh h => h.of_heap hh) own started (by kernel_rfl) Tryz.func3
    (ChangeSpec.witness_shaped (enc := enc) (C := Tryz.checked) (os := os) (X := fun w _ => laidMetH Tryz.prog Rows.deflateDynamicRow.laid w) false (World.doorLaid Tryz.prog 400 os) #[.slice none 0 0] 8 rfl (World.shaped_of_RefB (by kernel_rfl) (by kernel_rfl)) (by kernel_rfl) (by kernel_rfl) (by kernel_rfl) (door_met os _)) ?_
  intro W base args ds gs before hval0 hW _ hsz0 hL _
  have hval : ∀ (j : Nat) t v, Tryz.f3.params[j]? = some t → args[j]? = some v → Value.okWide Tryz.prog W .any base t v := hval0
  have hW' := hW
  obtain ⟨p, q, hA0, hV, rfl, hfz, hnd⟩ := hW
  have hA : DataW.TrodAll enc Tryz.prog W 0 (fun _ => true) true Tryz.f3.params.toList args.toList ds p := hA0
  have hsz : (DataW.weightsEach Tryz.prog (Tryz.f3.params.toList ++ Rows.deflateDynamicSpec.plain.varTypes Tryz.prog) (ds ++ gs)).all (· ≤ reachBytes) = true := hsz0
  rw [Tryz.params3] at hA hval hsz
  obtain ⟨v0, vs0, d0, ds0, p0, q0, hargs, rfl, rfl, h0, r0⟩ := trodAll_cons hA
  obtain ⟨rfl, rfl, rfl⟩ := trodAll_nil r0
  obtain rfl : args = #[v0] := by cases args; simp_all
  obtain ⟨rfl, rfl⟩ := trodVars_none hV
  have k0 := h0
  have lt0 : ∀ x ∈ p0, x.block < W.heap.size := by obtain ⟨m, hm⟩ := k0; exact DataW.trod_lt m _ _ _ hm
  obtain ⟨oa0, ol0, oc0, rfl⟩ := okWide_slice Tryz.underlying22 (hval 0 22 v0 rfl rfl)
  obtain ⟨m0, t0⟩ := h0
  obtain ⟨A0, len0, cap0, l0, he0, hl0, hll0, hst0⟩ := open_toks t0
  rw [he0] at hW' k0 ⊢
  clear hA0 hval0
  try simp only [List.append_nil] at hW'
  refine (walk A0 len0 cap0 hl0 l0 hll0 W hst0 (ord_of hL)).mono fun e W' ⟨he, bel⟩ => ?_
  subst he
  exact ⟨_, rfl, _, _, _, [], _, [], hW', trodAll_mk1 (shut_bool Tryz.underlying4 _), (trodAll_cons_mk (Below.trod laidOut (by kernel_rfl) (of_decide_eq_true (by kernel_rfl)) k0 bel lt0) trodAll_mk0), rfl, Below.frame bel _, fun h => by cases h⟩

theorem holds : Rows.DeflateDynamicSaid :=
  OpenClaim.holds_of_wide 3 Tryz.f3 rfl rfl rfl rfl rfl rfl rfl ⟨rfl, rfl, rfl, rfl, rfl⟩ rfl rfl rfl rfl rfl (by kernel_rfl) Tryz.func3 (by kernel_rfl)
    (of_decide_eq_true (by kernel_rfl)) (by unfold Func.isWrapper; first | (rw [if_pos (by decide +kernel)]; kernel_rfl) | (rw [if_neg (by decide +kernel)]; exact ⟨rfl, rfl⟩))
    (fun os started H enc _ => lifted os started H enc)

theorem proved : Rows.DeflateDynamicCardSaid :=
  Claim7.holds_tied_plain_at .later [] [.data] true _ true
    holds (fun _ h => by cases h) (by kernel_rfl) (fun _ h => by cases h) deflateDynamic_row_tie rfl ⟨rfl, rfl⟩ (by kernel_rfl) rfl
    (fun f fn hf hfn => by
      obtain rfl : f = 3 := Option.some.inj ((show Tryz.prog.funcNamed "mortise/mortiselaw09.DeflateDynamic" = some 3 by kernel_rfl).symm.trans hf) |>.symm
      obtain rfl : fn = Tryz.f3 := (Option.some.inj (Tryz.func3.symm.trans hfn)).symm
      exact ⟨by kernel_rfl, fun j t ht => by
        rw [Tryz.params3] at ht
        have hm : t ∈ [22] := by simpa using Array.mem_of_getElem? ht
        have hall : ([22].all fun u => !Tryz.prog.wantsStandIn u) = true := by kernel_rfl
        exact (show Tryz.prog.wantsStandIn t = false by simpa using List.all_eq_true.1 hall t hm)⟩)
    (by kernel_rfl)
end Go.Proofs.YtkmbgkcpohchhaaGreatDoor.deflateDynamic
