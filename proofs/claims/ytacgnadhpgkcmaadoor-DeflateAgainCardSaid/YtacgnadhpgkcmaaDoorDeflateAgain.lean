/- DeflateAgain returns true for every text and every list of tokens, and changes nothing that was there; no condition but that the listed table holds what the program's text lays. -/
import Derived.Test.YtacgnadhpgkcmaaDoorDefTb
import Derived.Test.YtacgnadhpgkcmaaDoorLawKit
import Derived.ShutString
import Derived.ChangeOld
import Derived.SizedLaws
namespace Go.Proofs.YtacgnadhpgkcmaaDoor.deflateAgain
open Go.ChangeShapes Go.WideShapes Go.ChangeAt Go.WideMaps Go.WideElems Go.RowKit
open Go.ChangeMaps (open_string shut_string)
set_option linter.unusedVariables false
set_option maxRecDepth 100000 in
set_option maxHeartbeats 8000000 in
theorem big1 (s : ByteArray) (a : Option Addr) (len cap : Nat) (hlen : len ≤ 9223372036854775807) (l : List TokR) (hll : Hid (l.length = len)) (h : ¬ s.size ≤ 4000) (w : World) (hst : ToksAt w a l) (ht : OrdAt w) :
    Calls Tryd.prog 3 #[.string s, .slice a len cap] w fun e w' => e = .returned (.bool true) ∧ Bw w w' := by
  have t1 : decide ((4000 : Int) < s.size) = true := decide_eq_true (by omega)
  have t2 : decide (4000 < s.size) = true := decide_eq_true (by omega)
  have HT := hid ht
  clear ht
  clear h hst
  go_enter Tryd.func3, Tryd.ntmps3
  go_wp2_with fail
  refine (live_any w HT.out).mono ?_
  rintro e wl ⟨rfl, hbl⟩
  have HBL := hid hbl
  clear hbl
  go_wp2
  go_returns
  exact ⟨rfl, HBL.out⟩
set_option maxRecDepth 100000 in
set_option maxHeartbeats 8000000 in
theorem big2 (s : ByteArray) (a : Option Addr) (len cap : Nat) (hlen : len ≤ 9223372036854775807) (l : List TokR) (hll : Hid (l.length = len)) (h0 : s.size ≤ 4000) (h : ¬ len ≤ 300) (w : World) (hst : ToksAt w a l) (ht : OrdAt w) :
    Calls Tryd.prog 3 #[.string s, .slice a len cap] w fun e w' => e = .returned (.bool true) ∧ Bw w w' := by
  have t1 : decide ((4000 : Int) < s.size) = false := decide_eq_false (by omega)
  have t2 : decide (4000 < s.size) = false := decide_eq_false (by omega)
  have t3 : decide ((300 : Int) < len) = true := decide_eq_true (by omega)
  have t4 : decide (300 < len) = true := decide_eq_true (by omega)
  have HT := hid ht
  clear ht
  clear h h0 hst
  go_enter Tryd.func3, Tryd.ntmps3
  go_wp2_with fail
  refine (live_any w HT.out).mono ?_
  rintro e wl ⟨rfl, hbl⟩
  have HBL := hid hbl
  clear hbl
  go_wp2
  go_returns
  exact ⟨rfl, HBL.out⟩
set_option maxRecDepth 100000 in
set_option maxHeartbeats 8000000 in
theorem small (s : ByteArray) (a : Option Addr) (len cap : Nat) (hlen : len ≤ 9223372036854775807) (l : List TokR) (hll : Hid (l.length = len)) (h0 : s.size ≤ 4000) (h : len ≤ 300) (w : World) (hst : ToksAt w a l) (ht : OrdAt w) :
    Calls Tryd.prog 3 #[.string s, .slice a len cap] w fun e w' => e = .returned (.bool true) ∧ Bw w w' := by
  have t1 : decide ((4000 : Int) < s.size) = false := decide_eq_false (by omega)
  have t2 : decide (4000 < s.size) = false := decide_eq_false (by omega)
  have t3 : decide ((300 : Int) < len) = false := decide_eq_false (by omega)
  have t4 : decide (300 < len) = false := decide_eq_false (by omega)
  have HT := hid ht
  have HD := hid (fun W (h : OrdAt W) => Deflate_any s (by omega) W h)
  cases hok : costOk l with
  | true =>
    have HF := hid (fun W (hW : Bw w W) => Dynamic_ok a len cap (by omega) l hll hok W (hst.below hW) (ht.bw hW))
    generalize outS (dynP l) = st at *
    clear ht h hst hok
    go_enter Tryd.func3, Tryd.ntmps3
    go_wp2_with fail
    refine (HF.out w (Bw.refl w)).mono ?_
    rintro e w1 ⟨rfl, hb1⟩
    have HB1 := hid hb1
    clear hb1
    go_wp2_with fail
    refine (HF.out w1 HB1.out).mono ?_
    rintro e w2 ⟨rfl, hb2⟩
    have HB2 := hid (HB1.out.trans hb2)
    clear hb2
    go_wp2_with fail
    refine (HD.out w2 (HT.out.bw HB2.out)).mono ?_
    rintro e w3 ⟨ts, _, rfl, hb3, rfl⟩
    have HB3 := hid (HB2.out.trans hb3)
    clear hb3
    generalize hds : defS s (findL s) = ds at *
    have HDS := hid hds
    clear hds
    go_wp2_with fail
    refine (HD.out w3 (HT.out.bw HB3.out)).mono ?_
    rintro e w4 ⟨ts, _, rfl, hb4, rfl⟩
    have HB4 := hid (HB3.out.trans hb4)
    have HT4 := hid (HT.out.bw HB4.out)
    rw [HDS.out]
    clear hb4
    go_wp2_with fail
    refine (live_any w4 HT4.out).mono ?_
    rintro e wl ⟨rfl, hbl⟩
    have HBL := hid hbl
    clear hbl
    go_wp2
    go_returns
    exact ⟨rfl, HB4.out.trans HBL.out⟩
  | false =>
    have HF := hid (fun W (hW : Bw w W) => Dynamic_bad a len cap (by omega) l hll hok W (hst.below hW))
    clear ht h hst hok
    go_enter Tryd.func3, Tryd.ntmps3
    go_wp2_with fail
    refine (HF.out w (Bw.refl w)).mono ?_
    rintro e w1 ⟨rfl, hb1⟩
    have HB1 := hid hb1
    clear hb1
    go_wp2_with fail
    refine (HF.out w1 HB1.out).mono ?_
    rintro e w2 ⟨rfl, hb2⟩
    have HB2 := hid (HB1.out.trans hb2)
    clear hb2
    go_wp2_with fail
    refine (HD.out w2 (HT.out.bw HB2.out)).mono ?_
    rintro e w3 ⟨ts, _, rfl, hb3, rfl⟩
    have HB3 := hid (HB2.out.trans hb3)
    clear hb3
    generalize hds : defS s (findL s) = ds at *
    have HDS := hid hds
    clear hds
    go_wp2_with fail
    refine (HD.out w3 (HT.out.bw HB3.out)).mono ?_
    rintro e w4 ⟨ts, _, rfl, hb4, rfl⟩
    have HB4 := hid (HB3.out.trans hb4)
    have HT4 := hid (HT.out.bw HB4.out)
    rw [HDS.out]
    clear hb4
    go_wp2_with fail
    refine (live_any w4 HT4.out).mono ?_
    rintro e wl ⟨rfl, hbl⟩
    have HBL := hid hbl
    clear hbl
    go_wp2
    go_returns
    exact ⟨rfl, HB4.out.trans HBL.out⟩
theorem walk (s : ByteArray) (hs : s.size ≤ 140737488351232) (a : Option Addr) (len cap : Nat) (hlen : len ≤ 9223372036854775807) (l : List TokR) (hll : Hid (l.length = len)) (w : World) (hst : ToksAt w a l) (hh : OrdAt w) :
    Calls Tryd.prog 3 #[.string s, .slice a len cap] w fun e w' => e = .returned (.bool true) ∧ Bw w w' := by
  by_cases h0 : s.size ≤ 4000
  · by_cases h : len ≤ 300
    · exact small s a len cap hlen l hll h0 h w hst hh
    · exact big2 s a len cap hlen l hll h0 h w hst hh
  · exact big1 s a len cap hlen l hll h0 w hst hh

/-! The frame: from the walk to the statement. -/
set_option maxRecDepth 100000 in
theorem lifted (os : Os) (started : os.Started) (H : Type) (enc : TypeId × Value → H) :
    ReturnsInHanded {} Tryd.checked os 3 .any (fun w args => (Rows.deflateAgainSpec.pre enc Tryd.prog Tryd.f3 [] false w args ∧ laidMetH Tryd.prog Rows.deflateAgainRow.laid w) ∧ sizedMet enc Tryd.prog Tryd.f3 (OpenSpec.ofChange Rows.deflateAgainSpec) false w args)
      (Rows.deflateAgainSpec.post enc Tryd.prog Tryd.f3 false true false false) := by
  refine returnsInHanded_of_change_and (C := Tryd.checked) (X := fun w _ => laidMetH Tryd.prog Rows.deflateAgainRow.laid w) (fun _ _ _ hh h => h.of_heap hh) own started (by kernel_rfl) Tryd.func3
    (ChangeSpec.witness_shaped (enc := enc) (C := Tryd.checked) (os := os) (X := fun w _ => laidMetH Tryd.prog Rows.deflateAgainRow.laid w) false (World.doorLaid Tryd.prog 400 os) #[.string ⟨#[]⟩, .slice none 0 0] 8 rfl (World.shaped_of_RefB (by kernel_rfl) (by kernel_rfl)) (by kernel_rfl) (by kernel_rfl) (by kernel_rfl) (door_met os _)) ?_
  intro W base args ds gs before hval0 hW _ hsz0 hL _
  have hval : ∀ (j : Nat) t v, Tryd.f3.params[j]? = some t → args[j]? = some v → Value.okWide Tryd.prog W .any base t v := hval0
  have hW' := hW
  obtain ⟨p, q, hA0, hV, rfl, hfz, hnd⟩ := hW
  have hA : DataW.TrodAll enc Tryd.prog W 0 (fun _ => true) true Tryd.f3.params.toList args.toList ds p := hA0
  have hsz : (DataW.weightsEach Tryd.prog (Tryd.f3.params.toList ++ Rows.deflateAgainSpec.plain.varTypes Tryd.prog) (ds ++ gs)).all (· ≤ reachBytes) = true := hsz0
  rw [Tryd.params3] at hA hval hsz
  obtain ⟨v0, vs0, d0, ds0, p0, q0, hargs, rfl, rfl, h0, r0⟩ := trodAll_cons hA
  obtain ⟨v1, vs1, d1, ds1, p1, q1, rfl, rfl, rfl, h1, r1⟩ := trodAll_cons r0
  obtain ⟨rfl, rfl, rfl⟩ := trodAll_nil r1
  obtain rfl : args = #[v0, v1] := by cases args; simp_all
  obtain ⟨rfl, rfl⟩ := trodVars_none hV
  obtain ⟨a0, rfl, rfl, rfl, w0⟩ := open_string Tryd.underlying9 (hval 0 9 v0 rfl rfl) h0
  have z0 := sized_string hsz (j := 0) (t := 9) (bytes := a0.data.toList) rfl rfl
  have k1 := h1
  have lt1 : ∀ x ∈ p1, x.block < W.heap.size := by obtain ⟨m, hm⟩ := k1; exact DataW.trod_lt m _ _ _ hm
  obtain ⟨oa1, ol1, oc1, rfl⟩ := okWide_slice Tryd.underlying22 (hval 1 22 v1 rfl rfl)
  obtain ⟨m1, t1⟩ := h1
  obtain ⟨A1, len1, cap1, l1, he1, hl1, hll1, hst1⟩ := open_toks t1
  rw [he1] at hW' k1 ⊢
  clear hA0 hval0
  try simp only [List.append_nil] at hW'
  refine (walk a0 (str_le z0) A1 len1 cap1 hl1 l1 hll1 W hst1 (ord_of hL)).mono fun e W' ⟨he, bel⟩ => ?_
  subst he
  exact ⟨_, rfl, _, _, _, [], _, [], hW', trodAll_mk1 (shut_bool Tryd.underlying4 _), (trodAll_cons_mk (shut_string Tryd.underlying9 w0) (trodAll_cons_mk (Below.trod laidOut (by kernel_rfl) (of_decide_eq_true (by kernel_rfl)) k1 bel lt1) trodAll_mk0)), rfl, Below.frame bel _, fun h => by cases h⟩

theorem holds : Rows.DeflateAgainSaid :=
  OpenClaim.holds_of_wide 3 Tryd.f3 rfl rfl rfl rfl rfl rfl rfl ⟨rfl, rfl, rfl, rfl, rfl⟩ rfl rfl rfl rfl rfl (by kernel_rfl) Tryd.func3 (by kernel_rfl)
    (of_decide_eq_true (by kernel_rfl)) (by unfold Func.isWrapper; first | (rw [if_pos (by decide +kernel)]; kernel_rfl) | (rw [if_neg (by decide +kernel)]; exact ⟨rfl, rfl⟩))
    (fun os started H enc _ => lifted os started H enc)

theorem proved : Rows.DeflateAgainCardSaid :=
  Claim7.holds_tied_plain_at .later [] [.data] true _ false
    holds (fun _ h => by cases h) (by kernel_rfl) (fun _ h => by cases h) deflateAgain_row_tie rfl ⟨rfl, rfl⟩ (by kernel_rfl) rfl
    (fun f fn hf hfn => by
      obtain rfl : f = 3 := Option.some.inj ((show Tryd.prog.funcNamed "mortise/mortiselaw09.DeflateAgain" = some 3 by kernel_rfl).symm.trans hf) |>.symm
      obtain rfl : fn = Tryd.f3 := (Option.some.inj (Tryd.func3.symm.trans hfn)).symm
      exact ⟨by kernel_rfl, fun j t ht => by
        rw [Tryd.params3] at ht
        have hm : t ∈ [9, 22] := by simpa using Array.mem_of_getElem? ht
        have hall : ([9, 22].all fun u => !Tryd.prog.wantsStandIn u) = true := by kernel_rfl
        exact (show Tryd.prog.wantsStandIn t = false by simpa using List.all_eq_true.1 hall t hm)⟩)
    (by kernel_rfl)
end Go.Proofs.YtacgnadhpgkcmaaDoor.deflateAgain
