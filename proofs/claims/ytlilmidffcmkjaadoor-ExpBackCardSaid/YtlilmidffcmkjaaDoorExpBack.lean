/- ExpBack returns true for every list of expressions, every index and all names, and changes nothing that was there; no condition but that the listed variables hold what the program's text lays. -/
import Derived.Test.YtlilmidffcmkjaaDoorExpTb
import Derived.Test.YtlilmidffcmkjaaDoorLawKit
import Derived.ShutString
import Derived.ChangeOld
import Derived.SizedLaws
import Derived.Deep.RegionWith
import Derived.Test.YtlilmidffcmkjaaDoorExpR
import Derived.Test.YtlilmidffcmkjaaDoorExpSp
namespace Go.Proofs.YtlilmidffcmkjaaDoor.expBack
open Go.ChangeShapes Go.WideShapes Go.ChangeAt Go.WideMaps Go.WideElems Go.RowKit
open Go.ChangeMaps (open_string shut_string)
set_option linter.unusedVariables false
set_option maxRecDepth 100000 in
set_option maxHeartbeats 8000000 in
theorem idx_ok {l : List ExpR} {i : Int} (h : idxE l i = 0) : checkB l = true ∧ ∃ n : Nat, i = n ∧ n < l.length := by
  unfold idxE at h
  by_cases c : checkB l = true
  · rw [if_pos c] at h
    by_cases d : 0 ≤ i ∧ i < l.length
    · exact ⟨c, i.toNat, by omega, by omega⟩
    · rw [if_neg d] at h; exact absurd h (by decide)
  · rw [if_neg c] at h; exact absurd h (by decide)
theorem idx_at {l : List ExpR} (h : checkB l = true) {n : Nat} (hn : n < l.length) : idxE l (n : Nat) = 0 := by
  unfold idxE
  rw [if_pos h, if_pos ⟨by omega, by omega⟩]
set_option maxRecDepth 100000 in
set_option maxHeartbeats 8000000 in
/-- Where the text is told. -/
theorem told (a : Option Addr) (len cap : Nat) (hlen : len ≤ 9223372036854775807) (l : List ExpR) (hll : Hid (l.length = len)) (n : Nat) (hc : checkB l = true) (hn : n < l.length) (htx : (txt l n).length ≤ 20000) (h4 : len ≤ 400) (na : Option Addr) (nlen ncap : Nat) (hnl : nlen ≤ 9223372036854775807) (names : List BindR) (hnn : Hid (names.length = nlen)) (h1 : nlen ≤ 100) (w : World) (hst : ExpAt w a l) (hbn : BndAt w na names) (hh : EnvAt w) :
    Calls Tryd.prog 6 #[.slice a len cap, .int .i64 n, .slice na nlen ncap] w fun e w' => e = .returned (.bool true) ∧ Bw w w' := by
  have H := hid hh
  have HST := hid hst
  have HBN := hid hbn
  have t1 : ¬ (400 : Int) < len := by omega
  have t2 : ¬ (100 : Int) < nlen := by omega
  have hnl2 : n < len := by rw [← hll.out]; exact hn
  have hix := idx_at hc hn
  have HP := hid (print_any a len cap hlen l hll n w hst hh.sgn hh.pow)
  have HPX : printX l n = (⟨(txt l n).toArray⟩, 0) := by
    unfold printX
    rw [if_pos hix, Int.toNat_natCast, if_pos htx]
  rw [HPX] at HP
  have HV := hid (fun W (h : Bw w W) => eval_any a len cap hlen l hll n na nlen ncap hnl names hnn W (hst.below h) (hbn.below h) (hh.bw h).sgn)
  have hev : evalX l n names = wrt l names n := by
    unfold evalX
    rw [if_pos hix, Int.toNat_natCast]
  rw [hev] at HV
  obtain ⟨s, hs⟩ : ∃ s : ByteArray, ⟨(txt l n).toArray⟩ = s := ⟨_, rfl⟩
  have hsd : s.data.toList = txt l n := by rw [← hs]
  have hsz : s.size ≤ 20000 := by rw [Lib.size_eq, hsd]; exact htx
  rw [hs] at HP
  obtain ⟨t, ht, hrep, hx⟩ := back_plain hc hn hsd
  rcases hx with ⟨g1, g2, m, hm, hml, hmc, hmt, hmw⟩ | ⟨hno, hm⟩
  · have HQ := hid (fun W (h : Bw w W) => parse_ok hm hsz W (hh.bw h))
    have hpos : 0 < m.length := by
      rw [hml]
      cases t <;> simp [Tr.sz] <;> omega
    obtain ⟨q, hq⟩ : ∃ q, m.length = q + 1 := ⟨m.length - 1, by omega⟩
    have hq1 : m.length - 1 = q := by omega
    rw [hq1] at hmt hmw
    have hqi := idx_at hmc (show q < m.length by omega)
    have HM := hid (fun (b : Option Addr) (c : Nat) W (h : Bw w W) (hb : ExpAt W b m) => print_any b (q + 1) c (by omega) m hq q W hb (hh.bw h).sgn (hh.bw h).pow)
    have HMX : printX m q = (s, 0) := by
      unfold printX
      rw [if_pos hqi, Int.toNat_natCast, hmt, if_pos htx, hs]
    rw [HMX] at HM
    have HW := hid (fun (b : Option Addr) (c : Nat) W (h : Bw w W) (hb : ExpAt W b m) => eval_any b (q + 1) c (by omega) m hq q na nlen ncap hnl names hnn W hb (hbn.below h) (hh.bw h).sgn)
    have hew : evalX m q names = wrt l names n := by
      unfold evalX
      rw [if_pos hqi, Int.toNat_natCast, hmw]
    rw [hew] at HW
    rw [hq] at HQ
    have hqq : q ≤ 400 := by omega
    have hqw : IntKind.i64.wrap (((q + 1 : Nat) : Int) - 1) = q := by rw [IntWalk.i64_in _ (by omega)]; omega
    have hqc : ((q + 1 : Nat) : Int) = (q : Int) + 1 := by omega
    generalize wrt l names n = vv at *
    obtain ⟨v1, v2⟩ := vv
    simp only at HV HW
    have HML := hid hq
    clear hst hbn hh HPX hev hs hsd hm hml hmc hmt hmw hq1 hqi HMX hew hrep ht g1 g2 hpos hq hix htx hn hc
    go_enter Tryd.func6, Tryd.ntmps6
    go_wp2_with fail
    refine HP.out.mono ?_
    rintro e w1 ⟨rfl, hb1⟩
    have HB1 := hid hb1
    clear hb1
    go_wp2_with fail
    refine (HQ.out w1 HB1.out).mono ?_
    rintro e w2 ⟨b, c, rfl, hb2, ha2⟩
    have HB2 := hid (HB1.out.trans hb2)
    have HA2 := hid ha2
    clear hb2 ha2
    go_wp2_with fail
    refine (HM.out b c w2 HB2.out HA2.out).mono ?_
    rintro e w3 ⟨rfl, hb3⟩
    have HB3 := hid (HB2.out.trans hb3)
    have HA3 := hid (HA2.out.below hb3)
    clear hb3
    go_wp2_with fail
    refine (HV.out w3 HB3.out).mono ?_
    rintro e w4 ⟨rfl, hb4⟩
    have HB4 := hid (HB3.out.trans hb4)
    have HA4 := hid (HA3.out.below hb4)
    clear hb4
    go_wp2_with fail
    refine (HW.out b c w4 HB4.out HA4.out).mono ?_
    rintro e w5 ⟨rfl, hb5⟩
    have HB5 := hid (HB4.out.trans hb5)
    clear hb5
    go_wp2_with fail
    refine (live_any w5 (H.out.bw HB5.out)).mono ?_
    rintro e wl ⟨rfl, hbl⟩
    have HBL := hid hbl
    clear hbl
    go_wp2
    go_returns
    exact ⟨rfl, HB5.out.trans HBL.out⟩
  · have HQ := hid (fun W (h : Bw w W) => parse_bad hm hsz W (hh.bw h))
    have hpt := parts_rep hrep
    have hdp := deep_txt ht (hsd.trans (rep_txt t n hrep ht))
    have HPT := hid (fun W (h : Bw w W) => parts_any a len cap h4 l hll hc n hnl2 W (hst.below h))
    have HDP := hid (fun W => deep_any s (by omega) W)
    rw [hpt] at HPT
    rw [hdp] at HDP
    by_cases c4 : 400 < t.sz
    · have i1 : (400 : Int) < ((min 1000000 t.sz : Nat) : Int) := by omega
      generalize min 1000000 t.sz = z at *
      clear hst hbn hh HPX hev hs hsd hm hrep ht hno hix htx hn hc hpt hdp HDP c4
      go_enter Tryd.func6, Tryd.ntmps6
      go_wp2_with fail
      refine HP.out.mono ?_
      rintro e w1 ⟨rfl, hb1⟩
      have HB1 := hid hb1
      clear hb1
      go_wp2_with fail
      refine (HQ.out w1 HB1.out).mono ?_
      rintro e w2 ⟨rfl, hb2⟩
      have HB2 := hid (HB1.out.trans hb2)
      clear hb2
      go_wp2_with fail
      refine (HPT.out w2 HB2.out).mono ?_
      rintro e w3 ⟨rfl, hb3⟩
      have HB3 := hid (HB2.out.trans hb3)
      clear hb3
      go_wp2_with fail
      refine (live_any w3 (H.out.bw HB3.out)).mono ?_
      rintro e wl ⟨rfl, hbl⟩
      have HBL := hid hbl
      clear hbl
      go_wp2
      go_returns
      exact ⟨rfl, HB3.out.trans HBL.out⟩
    · have i1 : ¬ (400 : Int) < ((min 1000000 t.sz : Nat) : Int) := by omega
      have i2 : (20 : Int) < (t.dp : Nat) := by omega
      generalize min 1000000 t.sz = z at *
      generalize t.dp = y at *
      clear hst hbn hh HPX hev hs hsd hm hrep ht hno hix htx hn hc hpt hdp c4
      go_enter Tryd.func6, Tryd.ntmps6
      go_wp2_with fail
      refine HP.out.mono ?_
      rintro e w1 ⟨rfl, hb1⟩
      have HB1 := hid hb1
      clear hb1
      go_wp2_with fail
      refine (HQ.out w1 HB1.out).mono ?_
      rintro e w2 ⟨rfl, hb2⟩
      have HB2 := hid (HB1.out.trans hb2)
      clear hb2
      go_wp2_with fail
      refine (HPT.out w2 HB2.out).mono ?_
      rintro e w3 ⟨rfl, hb3⟩
      have HB3 := hid (HB2.out.trans hb3)
      clear hb3
      go_wp2_with fail
      refine (HDP.out w3).mono ?_
      rintro e w4 ⟨rfl, rfl⟩
      go_wp2_with fail
      refine (live_any w4 (H.out.bw HB3.out)).mono ?_
      rintro e wl ⟨rfl, hbl⟩
      have HBL := hid hbl
      clear hbl
      go_wp2
      go_returns
      exact ⟨rfl, HB3.out.trans HBL.out⟩
set_option maxRecDepth 100000 in
set_option maxHeartbeats 8000000 in
theorem walk (a : Option Addr) (len cap : Nat) (hlen : len ≤ 9223372036854775807) (l : List ExpR) (hll : Hid (l.length = len)) (i : Int) (hi : Lit.wf (.int .i64 i) = true) (na : Option Addr) (nlen ncap : Nat) (hnl : nlen ≤ 9223372036854775807) (names : List BindR) (hnn : Hid (names.length = nlen)) (w : World) (hst : ExpAt w a l) (hbn : BndAt w na names) (hh : EnvAt w) :
    Calls Tryd.prog 6 #[.slice a len cap, .int .i64 i, .slice na nlen ncap] w fun e w' => e = .returned (.bool true) ∧ Bw w w' := by
  have H := hid hh
  by_cases c1 : 400 < len
  · have t1 : (400 : Int) < len := by omega
    clear hst hbn hh c1 hi
    go_enter Tryd.func6, Tryd.ntmps6
    go_wp2_with fail
    refine (live_any w (H.out)).mono ?_
    rintro e wl ⟨rfl, hbl⟩
    have HBL := hid hbl
    clear hbl
    go_wp2
    go_returns
    exact ⟨rfl, HBL.out⟩
  · have t1 : ¬ (400 : Int) < len := by omega
    by_cases c2 : 100 < nlen
    · have t2 : (100 : Int) < nlen := by omega
      clear hst hbn hh c1 c2 hi
      go_enter Tryd.func6, Tryd.ntmps6
      go_wp2_with fail
      refine (live_any w (H.out)).mono ?_
      rintro e wl ⟨rfl, hbl⟩
      have HBL := hid hbl
      clear hbl
      go_wp2
      go_returns
      exact ⟨rfl, HBL.out⟩
    · have t2 : ¬ (100 : Int) < nlen := by omega
      by_cases hx : idxE l i = 0
      · obtain ⟨hc, n, rfl, hn⟩ := idx_ok hx
        by_cases htx : (txt l n).length ≤ 20000
        · exact told a len cap hlen l hll n hc hn htx (by omega) na nlen ncap hnl names hnn (by omega) w hst hbn hh
        · have HP := hid (print_any a len cap hlen l hll n w hst hh.sgn hh.pow)
          have HPX : printX l n = (⟨#[]⟩, 11) := by
            unfold printX
            rw [if_pos hx, Int.toNat_natCast, if_neg htx]
          rw [HPX] at HP
          clear hst hbn hh c1 c2 hi hx hc hn htx HPX
          go_enter Tryd.func6, Tryd.ntmps6
          go_wp2_with fail
          refine HP.out.mono ?_
          rintro e w1 ⟨rfl, hb1⟩
          have HB1 := hid hb1
          clear hb1
          go_wp2_with fail
          refine (live_any w1 (H.out.bw HB1.out)).mono ?_
          rintro e wl ⟨rfl, hbl⟩
          have HBL := hid hbl
          clear hbl
          go_wp2
          go_returns
          exact ⟨rfl, HB1.out.trans HBL.out⟩
      · have HP := hid (print_any a len cap hlen l hll i w hst hh.sgn hh.pow)
        have HPX : printX l i = (⟨#[]⟩, idxE l i) := by
          unfold printX
          rw [if_neg hx]
        rw [HPX] at HP
        have td : (idxE l i != 0) = true := by simpa using hx
        generalize idxE l i = er at *
        clear hst hbn hh c1 c2 hi hx HPX
        go_enter Tryd.func6, Tryd.ntmps6
        go_wp2_with fail
        refine HP.out.mono ?_
        rintro e w1 ⟨rfl, hb1⟩
        have HB1 := hid hb1
        clear hb1
        go_wp2_with fail
        refine (live_any w1 (H.out.bw HB1.out)).mono ?_
        rintro e wl ⟨rfl, hbl⟩
        have HBL := hid hbl
        clear hbl
        go_wp2
        go_returns
        exact ⟨rfl, HB1.out.trans HBL.out⟩

/-! The frame: from the walk to the statement. -/
set_option maxRecDepth 100000 in
theorem lifted (os : Os) (started : os.Started) (H : Type) (enc : TypeId × Value → H) :
    ReturnsInHanded {} Tryd.checked os 6 .any (fun w args => (Rows.expBackSpec.pre enc Tryd.prog Tryd.f6 [] false w args ∧ laidMetH Tryd.prog Rows.expChecksRow.laid w) ∧ sizedMet enc Tryd.prog Tryd.f6 (OpenSpec.ofChange Rows.expBackSpec) false w args)
      (Rows.expBackSpec.post enc Tryd.prog Tryd.f6 false true false false) := by
  refine returnsInHanded_of_change_and (C := Tryd.checked) (X := fun w _ => laidMetH Tryd.prog Rows.expChecksRow.laid w) (fun _ _ _ hh h => h.of_heap hh) own started (by kernel_rfl) Tryd.func6
    (ChangeSpec.witness_shaped (enc := enc) (C := Tryd.checked) (os := os) (X := fun w _ => laidMetH Tryd.prog Rows.expChecksRow.laid w) false (World.laidAll Tryd.prog os Rows.expChecksRow.laid) #[.slice none 0 0, .int .i64 0, .slice none 0 0] 8 (World.laidAll_os _ _ _) (World.shaped_of_ZipB (by kernel_rfl) (by kernel_rfl)) (by kernel_rfl) (by kernel_rfl) (by kernel_rfl) (laid_met os _)) ?_
  intro W base args ds gs before hval0 hW _ hsz0 hL _
  have hval : ∀ (j : Nat) t v, Tryd.f6.params[j]? = some t → args[j]? = some v → Value.okWide Tryd.prog W .any base t v := hval0
  have hW' := hW
  obtain ⟨p, q, hA0, hV, rfl, hfz, hnd⟩ := hW
  have hA : DataW.TrodAll enc Tryd.prog W 0 (fun _ => true) true Tryd.f6.params.toList args.toList ds p := hA0
  have hsz : (DataW.weightsEach Tryd.prog (Tryd.f6.params.toList ++ Rows.expBackSpec.plain.varTypes Tryd.prog) (ds ++ gs)).all (· ≤ reachBytes) = true := hsz0
  rw [Tryd.params6] at hA hval hsz
  obtain ⟨v0, vs0, d0, ds0, p0, q0, hargs, rfl, rfl, h0, r0⟩ := trodAll_cons hA
  obtain ⟨v1, vs1, d1, ds1, p1, q1, rfl, rfl, rfl, h1, r1⟩ := trodAll_cons r0
  obtain ⟨v2, vs2, d2, ds2, p2, q2, rfl, rfl, rfl, h2, r2⟩ := trodAll_cons r1
  obtain ⟨rfl, rfl, rfl⟩ := trodAll_nil r2
  obtain rfl : args = #[v0, v1, v2] := by cases args; simp_all
  obtain ⟨rfl, rfl⟩ := trodVars_none hV
  have k0 := h0
  have lt0 : ∀ x ∈ p0, x.block < W.heap.size := by obtain ⟨m, hm⟩ := k0; exact DataW.trod_lt m _ _ _ hm
  obtain ⟨oa0, ol0, oc0, rfl⟩ := okWide_slice Tryd.underlying22 (hval 0 22 v0 rfl rfl)
  obtain ⟨m0, t0⟩ := h0
  obtain ⟨A0, len0, cap0, l0, he0, hl0, hll0, hst0⟩ := open_exp t0
  rw [he0] at hW' k0 ⊢
  obtain ⟨a1, rfl, rfl, rfl, w1⟩ := open_int Tryd.underlying3 (hval 1 3 v1 rfl rfl) h1
  have k2 := h2
  have lt2 : ∀ x ∈ p2, x.block < W.heap.size := by obtain ⟨m, hm⟩ := k2; exact DataW.trod_lt m _ _ _ hm
  obtain ⟨oa2, ol2, oc2, rfl⟩ := okWide_slice Tryd.underlying31 (hval 2 31 v2 rfl rfl)
  obtain ⟨m2, t2⟩ := h2
  obtain ⟨A2, len2, cap2, l2, he2, hl2, hll2, hst2⟩ := open_bnd t2
  rw [he2] at hW' k2 ⊢
  clear hA0 hval0
  try simp only [List.append_nil] at hW'
  refine (walk A0 len0 cap0 hl0 l0 hll0 a1 w1 A2 len2 cap2 hl2 l2 hll2 W hst0 hst2 (env_of hL)).mono fun e W' ⟨he, bel⟩ => ?_
  subst he
  exact ⟨_, rfl, _, _, _, [], _, [], hW', trodAll_mk1 (shut_bool Tryd.underlying4 _), (trodAll_cons_mk (Below.trod laidOut (by kernel_rfl) (of_decide_eq_true (by kernel_rfl)) k0 bel lt0) (trodAll_cons_mk (shut_int Tryd.underlying3 w1) (trodAll_cons_mk (Below.trod laidOut (by kernel_rfl) (of_decide_eq_true (by kernel_rfl)) k2 bel lt2) trodAll_mk0))), rfl, Below.frame bel _, fun h => by cases h⟩

theorem holds : Rows.ExpBackSaid :=
  OpenClaim.holds_of_wide 6 Tryd.f6 rfl rfl rfl rfl rfl rfl rfl ⟨rfl, rfl, rfl, rfl, rfl⟩ rfl rfl rfl rfl rfl (by kernel_rfl) Tryd.func6 (by kernel_rfl)
    (of_decide_eq_true (by kernel_rfl)) (by unfold Func.isWrapper; first | (rw [if_pos (by decide +kernel)]; kernel_rfl) | (rw [if_neg (by decide +kernel)]; exact ⟨rfl, rfl⟩))
    (fun os started H enc _ => lifted os started H enc)

theorem proved : Rows.ExpBackCardSaid :=
  Claim7.holds_tied_plain_at .later [] [.data, .data, .data, .data, .sentinel, .sentinel, .data, .pinned] true _ true
    holds (fun _ h => by cases h) (by kernel_rfl) (fun _ h => by cases h) expBack_row_tie rfl ⟨rfl, rfl⟩ (by kernel_rfl) rfl
    (fun f fn hf hfn => by
      obtain rfl : f = 6 := Option.some.inj ((show Tryd.prog.funcNamed "mortise/mortiselaw11.ExpBack" = some 6 by kernel_rfl).symm.trans hf) |>.symm
      obtain rfl : fn = Tryd.f6 := (Option.some.inj (Tryd.func6.symm.trans hfn)).symm
      exact ⟨by kernel_rfl, fun j t ht => by
        rw [Tryd.params6] at ht
        have hm : t ∈ [22, 3, 31] := by simpa using Array.mem_of_getElem? ht
        have hall : ([22, 3, 31].all fun u => !Tryd.prog.wantsStandIn u) = true := by kernel_rfl
        exact (show Tryd.prog.wantsStandIn t = false by simpa using List.all_eq_true.1 hall t hm)⟩)
    (by kernel_rfl)
end Go.Proofs.YtlilmidffcmkjaaDoor.expBack
