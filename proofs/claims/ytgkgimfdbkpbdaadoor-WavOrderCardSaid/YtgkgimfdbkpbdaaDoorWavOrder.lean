/- WavOrder returns true for every sound and every int, and changes nothing that was there; no condition but that the listed variable holds what the program's text lays. -/
import Derived.Test.YtgkgimfdbkpbdaaDoorWavY
import Derived.Deep.DeepCutAuto
namespace Go.Proofs.YtgkgimfdbkpbdaaDoor.wavOrder
open Go.ChangeShapes Go.WideShapes Go.ChangeAt Go.WideMaps Go.WideElems Go.RowKit
open Go.ChangeMaps (open_string shut_string)
set_option linter.unusedVariables false
set_option linter.unusedSimpArgs false
set_option maxRecDepth 100000 in
set_option maxHeartbeats 8000000 in
theorem walk (ch rate bits : Int) (fr : ByteArray) (hz : fr.size ≤ 140737488351232) (A : Option Addr) (len cap : Nat) (hlen : len ≤ 9223372036854775807) (l : List ChkR) (hll : l.length = len) (cut : Int) (hi : Lit.wf (.int .i64 cut) = true) (w : World) (hst : ChkAt w A l) (hnc : A = none → cap = 0) (hw : WidAt w) (hcp : len ≤ cap) (hcm : cap ≤ 9223372036854775807) :
    Calls Tryd.prog 8 #[.agg #[.int .i64 ch, .int .i64 rate, .int .i64 bits, .string fr, .slice A len cap], .int .i64 cut] w fun e w' => e = .returned (.bool true) ∧ Bw w w' := by
  have HWD := hid hw
  have HST := hid hst
  have HB1 := hid ((Bw.refl w).alloc (.cells #[.int .i64 ch, .int .i64 rate, .int .i64 bits, .string fr, .slice A len cap] 34))
  have HX1 := hid (Has.new w 34 #[.int .i64 ch, .int .i64 rate, .int .i64 bits, .string fr, .slice A len cap])
  obtain ⟨na, hna⟩ : ∃ na, w.heap.size = na := ⟨_, rfl⟩
  rw [hna] at HX1
  by_cases hfz : 20000 < fr.size
  · have t1 : (20000 : Int) < fr.size := by omega
    clear hst hw hnc hfz
    go_enter Tryd.func8, Tryd.ntmps8
    go_upto_region 1 with fail
    generalize w.alloc (.cells #[.int .i64 ch, .int .i64 rate, .int .i64 bits, .string fr, .slice A len cap] 34) = w1 at *
    obtain ⟨x0, x1, x2, x3, x4⟩ := HX1.out.five
    go_wp2_with fail
    refine (live_any _ (HWD.out.bw HB1.out)).mono ?_
    rintro e wl ⟨rfl, hbl⟩
    have HBL := hid ((HB1.out).trans hbl)
    clear hbl
    go_wp2
    go_returns
    exact ⟨rfl, HBL.out⟩
  · have t1 : ¬ (20000 : Int) < fr.size := by omega
    have HSM := hid (fun W (h : ChkAt W A l) => small_any A len cap hlen l (hid hll) W h)
    cases hs : smallB l with
    | false =>
      rw [hs] at HSM
      clear hst hw hs hnc hfz
      go_enter Tryd.func8, Tryd.ntmps8
      go_upto_region 1 with fail
      generalize w.alloc (.cells #[.int .i64 ch, .int .i64 rate, .int .i64 bits, .string fr, .slice A len cap] 34) = w1 at *
      obtain ⟨x0, x1, x2, x3, x4⟩ := HX1.out.five
      go_wp2_with fail
      refine (HSM.out _ (HST.out.below HB1.out)).mono ?_
      rintro e w2 ⟨rfl, hb2⟩
      have HB2 := hid (HB1.out.trans hb2)
      clear hb2
      go_wp2_with fail
      refine (live_any _ (HWD.out.bw HB2.out)).mono ?_
      rintro e wl ⟨rfl, hbl⟩
      have HBL := hid ((HB2.out).trans hbl)
      clear hbl
      go_wp2
      go_returns
      exact ⟨rfl, HBL.out⟩
    | true =>
      rw [hs] at HSM
      have h40 := (small_all hs).1
      have h50 := (small_all hs).2
      have hl40 : len ≤ 40 := by omega
      have hno := chk_none hst hll hnc
      have HW0 := hid (fun W (h : ChkAt W A l) (hW : WidAt W) => (show Calls Tryd.prog 16 #[.agg #[.int .i64 ch, .int .i64 rate, .int .i64 bits, .string fr, .slice A len cap]] W fun e w' => e = .returned (.tuple #[.string (writeP ⟨ch, rate, bits, fr, l⟩).1, .int .i64 (writeP ⟨ch, rate, bits, fr, l⟩).2]) ∧ Bw W w' from wwrite_any ⟨ch, rate, bits, fr, l⟩ (by show fr.size ≤ 20000; omega) h40 h50 A len cap hll hno W h hW))
      cases hsb : soundB ⟨ch, rate, bits, fr, l⟩ with
      | false =>
        have hwr : writeP ⟨ch, rate, bits, fr, l⟩ = (⟨#[]⟩, 1) := if_neg (by rw [hsb]; decide)
        rw [hwr] at HW0
        have HSP := hid (fun W => (split_any ⟨#[]⟩ (by decide) W).mono (fun e W' h => (show ∃ a c, e = .returned (.tuple #[.string (splitP ⟨#[]⟩).1, .slice a (splitP ⟨#[]⟩).2.1.length c, .int .i64 (splitP ⟨#[]⟩).2.2]) ∧ Bw W W' ∧ ChkAt W' a (splitP ⟨#[]⟩).2.1 from h)))
        obtain ⟨⟨F, r, E⟩, hx⟩ : ∃ x, splitP ⟨#[]⟩ = x := ⟨_, rfl⟩
        rw [hx] at HSP
        simp only at HSP
        generalize r.length = rn at *
        clear hst hw hs hnc hfz h40 h50 hsb hwr hi hx
        go_enter Tryd.func8, Tryd.ntmps8
        go_upto_region 1 with fail
        generalize w.alloc (.cells #[.int .i64 ch, .int .i64 rate, .int .i64 bits, .string fr, .slice A len cap] 34) = w1 at *
        obtain ⟨x0, x1, x2, x3, x4⟩ := HX1.out.five
        go_wp2_with fail
        refine (HSM.out _ (HST.out.below HB1.out)).mono ?_
        rintro e w2 ⟨rfl, hb2⟩
        have HB2 := hid (HB1.out.trans hb2)
        have HX2 := hid (hb2.has HX1.out)
        clear hb2 x0 x1 x2 x3 x4
        obtain ⟨x0, x1, x2, x3, x4⟩ := HX2.out.five
        go_wp2_with fail
        refine (HW0.out _ (HST.out.below HB2.out) (HWD.out.bw HB2.out)).mono ?_
        rintro e w3 ⟨rfl, hb3⟩
        have HB3 := hid (HB2.out.trans hb3)
        have HX3 := hid (hb3.has HX2.out)
        clear hb3 x0 x1 x2 x3 x4
        go_wp2_with fail
        refine (HSP.out w3).mono ?_
        rintro e w4 ⟨a, c, rfl, hb4, ha4⟩
        have HB4 := hid (HB3.out.trans hb4)
        have HX4 := hid (hb4.has HX3.out)
        have HA4 := hid ha4
        clear hb4 ha4
        go_wp2_with fail
        refine (live_any _ (HWD.out.bw HB4.out)).mono ?_
        rintro e wl ⟨rfl, hbl⟩
        have HBL := hid ((HB4.out).trans hbl)
        clear hbl
        go_wp2
        go_returns
        exact ⟨rfl, HBL.out⟩
      | true =>
        have hwr : writeP ⟨ch, rate, bits, fr, l⟩ = (joinT waveT (allC ⟨ch, rate, bits, fr, l⟩), 0) := if_pos hsb
        have hfew := write_few (m := ⟨ch, rate, bits, fr, l⟩) (by show fr.size ≤ 20000; omega) h40 h50
        have hsum := few_sum hfew
        have hjz := joinT_size wave_typ (all_types hsb)
        have hsp := split_join wave_typ (all_types hsb) (by omega)
        obtain ⟨s, hse⟩ : ∃ s, joinT waveT (allC ⟨ch, rate, bits, fr, l⟩) = s := ⟨_, rfl⟩
        rw [hse] at hwr hjz hsp
        rw [hwr] at HW0
        have HSP := hid (fun W => (split_any s (by omega) W).mono (fun e W' h => (show ∃ a c, e = .returned (.tuple #[.string ⟨#[87, 65, 86, 69]⟩, .slice a (2 + len) c, .int .i64 0]) ∧ Bw W W' ∧ ChkAt W' a (allC ⟨ch, rate, bits, fr, l⟩) from by
          obtain ⟨a, c, h1, h2, h3⟩ := h
          rw [hsp] at h1 h3
          rw [show 2 + len = (allC ⟨ch, rate, bits, fr, l⟩).length from by show 2 + len = l.length + 1 + 1; omega]
          exact ⟨a, c, h1, h2, h3⟩)))
        have hi2 : -9223372036854775808 ≤ cut ∧ cut ≤ 9223372036854775807 := by
          have := hi
          simp [Lit.wf, IntKind.min, IntKind.max, IntKind.bits, IntKind.signed] at this
          omega
        have HSB := hid hsb
        have hallt := all_types hsb
        have hallk : ∀ c ∈ allC ⟨ch, rate, bits, fr, l⟩, c.Ok := allC_ok (by show fr.size ≤ 20000; omega) (all_ok hst)
        obtain ⟨f, hfd⟩ : ∃ f : ChkR, f = ⟨fmtT, fmtS ⟨ch, rate, bits, fr, l⟩⟩ := ⟨_, rfl⟩
        obtain ⟨d, hdd⟩ : ∃ d : ChkR, d = ⟨dataT, fr⟩ := ⟨_, rfl⟩
        have hal : allC ⟨ch, rate, bits, fr, l⟩ = f :: d :: l := by rw [hfd, hdd]; rfl
        rw [hal] at HSP hallt hallk hfew
        have HF := hid (hallk f (by simp))
        have HD := hid (hallk d (by simp))
        have HTN := hid (fun k (hk : k ≤ len) => (show (∃ t, joinP waveT (turnL l k f d) = (t, 0) ∧ (∀ v c W, ChkAt W v (turnL l k f d) → Calls Tryd.prog 14 #[.string ⟨#[87, 65, 86, 69]⟩, .slice v (len + 2) c] W fun e w' => e = .returned (.tuple #[.string t, .int .i64 0]) ∧ Bw W w') ∧ (∀ W, WidAt W → Calls Tryd.prog 18 #[.string t] W fun e w' => ∃ a c, e = .returned (.tuple #[.agg #[.int .i64 ch, .int .i64 rate, .int .i64 bits, .string fr, .slice a len c], .int .i64 0]) ∧ Bw W w' ∧ ChkAt w' a l)) from by
          have hkl : k ≤ l.length := by omega
          have hln := turn_len hkl f d
          have hme : ∀ c ∈ turnL l k f d, c ∈ f :: d :: l := fun c hc => by
            rcases turn_mem hc with h | h | h
            · rw [h]; simp
            · rw [h]; simp
            · simp [h]
          have hat : AllT (turnL l k f d) := fun c hc => hallt c (hme c hc)
          have hfw : Few (turnL l k f d) := ⟨by rw [hln]; omega, fun c hc => hfew.2 c (hme c hc)⟩
          have hsm := few_sum hfw
          have hjp : joinP waveT (turnL l k f d) = (joinT waveT (turnL l k f d), 0) := joinB_ok wave_typ hat
          refine ⟨joinT waveT (turnL l k f d), hjp, fun v c W h => ?_, fun W hW => ?_⟩
          · have := join_any waveT (by decide) v (len + 2) c (by omega) (turnL l k f d) (hid (by rw [hln]; omega)) hfw W h
            rw [hjp] at this
            exact this
          · have hz := joinT_size wave_typ hat
            have hly := turn_lay (m := ⟨ch, rate, bits, fr, l⟩) hsb hkl
            rw [← hfd, ← hdd] at hly
            rw [← hll]
            exact read_any (joinT waveT (turnL l k f d)) (by omega) ⟨ch, rate, bits, fr, l⟩ (turnL l k f d) k (l.length + 1) (split_join wave_typ hat (by omega)) hly hsb (by show fr.size ≤ 100000; omega) (by rw [hln]; omega) W hW))
        have HSA := hid (fun a c W (ha : ChkAt W A l) (hb : ChkAt W a l) => (show Calls Tryd.prog 19 #[.agg #[.int .i64 ch, .int .i64 rate, .int .i64 bits, .string fr, .slice A len cap], .agg #[.int .i64 ch, .int .i64 rate, .int .i64 bits, .string fr, .slice a len c]] W fun e w' => e = .returned (.bool true) ∧ Bw W w' from
          sameS_eq ⟨ch, rate, bits, fr, l⟩ A a len cap c hll (by omega) W ha hb))
        clear hst hw hs hnc hfz h40 h50 hsb hwr hfew hsum hjz hsp hse hi hallt hallk hfd hdd hal
        by_cases hneg : cut < 0
        · have i1 : IntKind.i64.wrap (cut + 1) = cut + 1 := IntWalk.i64_in _ (by omega)
          have i2 : IntKind.i64.wrap (-(cut + 1)) = -(cut + 1) := IntWalk.i64_in _ (by omega)
          obtain ⟨q, hq⟩ : ∃ q : Nat, -(cut + 1) = q := ⟨(-(cut + 1)).toNat, by omega⟩
          have htm : (-(cut + 1)).tmod ((len : Int) + 1) = ((q % (len + 1) : Nat) : Int) := by
            rw [hq, Int.tmod_eq_emod_of_nonneg (by omega)]
            exact (Int.natCast_emod _ _).symm
          have hkl : q % (len + 1) < len + 1 := Nat.mod_lt _ (by omega)
          obtain ⟨k, hkk⟩ : ∃ k, q % (len + 1) = k := ⟨_, rfl⟩
          rw [hkk] at htm hkl
          clear hkk hq
          have k1 : k ≤ len := by omega
          have k2 : (k : Int) ≤ len := by omega
          have k3 : k ≤ cap := by omega
          have k4 : (k : Int) ≤ cap := by omega
          go_enter Tryd.func8, Tryd.ntmps8
          go_upto_region 1 with fail
          generalize w.alloc (.cells #[.int .i64 ch, .int .i64 rate, .int .i64 bits, .string fr, .slice A len cap] 34) = w1 at *
          obtain ⟨x0, x1, x2, x3, x4⟩ := HX1.out.five
          go_wp2_with fail
          refine (HSM.out _ (HST.out.below HB1.out)).mono ?_
          rintro e w2 ⟨rfl, hb2⟩
          have HB2 := hid (HB1.out.trans hb2)
          have HX2 := hid (hb2.has HX1.out)
          clear hb2 x0 x1 x2 x3 x4
          obtain ⟨x0, x1, x2, x3, x4⟩ := HX2.out.five
          go_wp2_with fail
          refine (HW0.out _ (HST.out.below HB2.out) (HWD.out.bw HB2.out)).mono ?_
          rintro e w3 ⟨rfl, hb3⟩
          have HB3 := hid (HB2.out.trans hb3)
          have HX3 := hid (hb3.has HX2.out)
          clear hb3 x0 x1 x2 x3 x4
          go_wp2_with fail
          refine (HSP.out w3).mono ?_
          rintro e w4 ⟨a, c, rfl, hb4, ha4⟩
          have HB4 := hid (HB3.out.trans hb4)
          have HX4 := hid (hb4.has HX3.out)
          have HA4 := hid ha4
          clear hb4 ha4
          obtain ⟨x0, x1, x2, x3, x4⟩ := HX4.out.five
          go_upto_region 13 with fail
          obtain ⟨t, hjt, HJN, HRD⟩ := HTN.out k k1
          have HJ := hid HJN
          have HR := hid HRD
          clear hjt HTN HJN HRD
          have HLL := hid hll
          have HL1 := hid (show (l.take k).length = k from by rw [List.length_take, hll]; omega)
          have HL2 := hid (show (l.take k ++ [f]).length = k + 1 from by rw [List.length_append, HL1.out]; rfl)
          have HL3 := hid (show (l.drop k).length = len - k from by rw [List.length_drop, hll])
          have HL4 := hid (show (l.take k ++ [f] ++ l.drop k).length = len + 1 from by rw [List.length_append, HL2.out, HL3.out]; omega)
          have HL5 := hid (show (l.take k ++ [f] ++ l.drop k ++ [d]).length = len + 2 from by rw [List.length_append, HL4.out]; rfl)
          have HTO := hid (fun c (hc : c ∈ turnL l k f d) => (show c.Ok from by
            rcases turn_mem hc with h | h | h
            · rw [h]; exact HF.out
            · rw [h]; exact HD.out
            · exact all_ok HST.out c h))
          obtain ⟨b, off, rfl, hbl, y0, y1, y2, y3⟩ := chk_two_at HA4.out
          have HY := hid (And.intro y0 (And.intro y1 (And.intro y2 y3)))
          have HN4 := hid (nil_own w4 w4.heap.size)
          have HBR := hid (Bw.refl w4)
          have HS4 := hid (HST.out.below HB4.out)
          cases A with
          | none =>
            obtain ⟨hl0, hc0⟩ := hno rfl
            subst hc0 hl0
            obtain rfl : k = 0 := by omega
            have hln : l = [] := List.length_eq_zero_iff.1 HLL.out
            have HDR := hid (fun W (h : Bw w4 W) => (show ChkAt W none (l.drop 0) from by rw [hln]; exact chk_nil W _))
            clear hln
            go_upto_region 14 with (at_builtin; refine wpList_app_chk rfl _ _ rfl w4.heap.size _ _ (l.take 0) rfl HN4.out none 0 0 rfl HL1.out (fun _ => ⟨rfl, rfl⟩) (chk_take HS4.out 0) (by show 0 + 0 ≤ 1000000; omega) HBR.out.size ?_; intro v5 w5 hown5 hgrow5; rw [List.nil_append] at hown5; obtain ⟨ao5, cp5, hv5⟩ := own_slice hown5; rw [HL1.out] at hv5; subst hv5; have HO5 := hid (show w5.ownsRow w4.heap.size 42 2 (.slice ao5 0 cp5) (l.take 0).length (chkCells (l.take 0)) from hown5); have HB5 := hid (show Bw w4 w5 from Below.trans HBR.out (own_grownJ HN4.out hgrow5 HBR.out.size)); clear hown5 hgrow5)
            clear x0 x1 x2 x3 x4
            obtain ⟨x0, x1, x2, x3, x4⟩ := (HB5.out.has HX4.out).five
            clear y0 y1 y2 y3
            have y0 := HB5.out.cell HY.out.1
            have y1 := HB5.out.cell HY.out.2.1
            go_upto_region 15 with (at_builtin; refine wpList_app_chk rfl _ _ rfl w4.heap.size _ _ [f] rfl (((Bw.refl w5).alloc (.cells #[.string f.typ, .string f.dat] 42)).own HO5.out) (some ⟨w5.heap.size, 0, none⟩) 1 1 rfl rfl (fun h => by cases h) (chk_one_new w5 f HF.out) (by rw [HL1.out]; omega) (HB5.out.alloc (.cells #[.string f.typ, .string f.dat] 42)).size ?_; intro v6 w6 hown6 hgrow6; obtain ⟨ao6, cp6, hv6⟩ := own_slice hown6; rw [HL2.out] at hv6; subst hv6; have HO6 := hid (show w6.ownsRow w4.heap.size 42 2 (.slice ao6 (0 + 1) cp6) (l.take 0 ++ [f]).length (chkCells (l.take 0 ++ [f])) from hown6); have HB6 := hid (show Bw w4 w6 from Below.trans (HB5.out.alloc (.cells #[.string f.typ, .string f.dat] 42)) (own_grownJ (((Bw.refl w5).alloc (.cells #[.string f.typ, .string f.dat] 42)).own HO5.out) hgrow6 (HB5.out.alloc (.cells #[.string f.typ, .string f.dat] 42)).size)); clear hown6 hgrow6)
            clear x0 x1 x2 x3 x4
            obtain ⟨x0, x1, x2, x3, x4⟩ := (HB6.out.has HX4.out).five
            clear y0 y1
            go_upto_region 16 with (at_builtin; refine wpList_app_chk rfl _ _ rfl w4.heap.size _ _ (l.drop 0) rfl HO6.out none 0 0 rfl HL3.out (fun _ => ⟨rfl, rfl⟩) (HDR.out w6 HB6.out) (by rw [HL2.out]; omega) HB6.out.size ?_; intro v7 w7 hown7 hgrow7; obtain ⟨ao7, cp7, hv7⟩ := own_slice hown7; rw [HL4.out] at hv7; subst hv7; have HO7 := hid (show w7.ownsRow w4.heap.size 42 2 (.slice ao7 (0 + 1) cp7) (l.take 0 ++ [f] ++ l.drop 0).length (chkCells (l.take 0 ++ [f] ++ l.drop 0)) from hown7); have HB7 := hid (show Bw w4 w7 from Below.trans HB6.out (own_grownJ HO6.out hgrow7 HB6.out.size)); clear hown7 hgrow7)
            clear x0 x1 x2 x3 x4
            obtain ⟨x0, x1, x2, x3, x4⟩ := (HB7.out.has HX4.out).five
            clear HDR
            have y2 := HB7.out.cell HY.out.2.2.1
            have y3 := HB7.out.cell HY.out.2.2.2
            go_upto_region 17 with (at_builtin; refine wpList_app_chk rfl _ _ rfl w4.heap.size _ _ [d] rfl (((Bw.refl w7).alloc (.cells #[.string d.typ, .string d.dat] 42)).own HO7.out) (some ⟨w7.heap.size, 0, none⟩) 1 1 rfl rfl (fun h => by cases h) (chk_one_new w7 d HD.out) (by rw [HL4.out]; omega) (HB7.out.alloc (.cells #[.string d.typ, .string d.dat] 42)).size ?_; intro v8 w8 hown8 hgrow8; obtain ⟨ao8, cp8, hv8⟩ := own_slice hown8; rw [HL5.out] at hv8; subst hv8; have HO8 := hid (show w8.ownsRow w4.heap.size 42 2 (.slice ao8 (0 + 2) cp8) (turnL l 0 f d).length (chkCells (turnL l 0 f d)) from hown8); have HB8 := hid (show Bw w4 w8 from Below.trans (HB7.out.alloc (.cells #[.string d.typ, .string d.dat] 42)) (own_grownJ (((Bw.refl w7).alloc (.cells #[.string d.typ, .string d.dat] 42)).own HO7.out) hgrow8 (HB7.out.alloc (.cells #[.string d.typ, .string d.dat] 42)).size)); clear hown8 hgrow8)
            clear x0 x1 x2 x3 x4
            obtain ⟨x0, x1, x2, x3, x4⟩ := (HB8.out.has HX4.out).five
            clear y2 y3
            have HC8 := hid (ChkAt.of_own HO8.out HTO.out)
            go_wp2_with fail
            refine (HJ.out ao8 cp8 w8 HC8.out).mono ?_
            rintro e w9 ⟨rfl, hb9⟩
            have HB9 := hid (HB8.out.trans hb9)
            have HX9 := hid (HB9.out.has HX4.out)
            clear hb9 x0 x1 x2 x3 x4
            go_wp2_with fail
            refine (HR.out _ (HWD.out.bw (HB4.out.trans HB9.out))).mono ?_
            rintro e w10 ⟨a9, c9, rfl, hb10, ha10⟩
            have HB10 := hid ((HB4.out.trans HB9.out).trans hb10)
            have HX10 := hid (hb10.has HX9.out)
            have HA10 := hid ha10
            clear hb10 ha10
            have HB11 := hid (HB10.out.alloc (.cells #[.int .i64 ch, .int .i64 rate, .int .i64 bits, .string fr, .slice a9 0 c9] 34))
            have HX11 := hid (HX10.out.alloc (.cells #[.int .i64 ch, .int .i64 rate, .int .i64 bits, .string fr, .slice a9 0 c9] 34))
            have HY11 := hid (Has.new w10 34 #[.int .i64 ch, .int .i64 rate, .int .i64 bits, .string fr, .slice a9 0 c9])
            have HA11 := hid (HA10.out.below ((Bw.refl w10).alloc (.cells #[.int .i64 ch, .int .i64 rate, .int .i64 bits, .string fr, .slice a9 0 c9] 34)))
            obtain ⟨nb, hnb⟩ : ∃ nb, w10.heap.size = nb := ⟨_, rfl⟩
            rw [hnb] at HY11
            go_upto_region 19 with fail
            generalize w10.alloc (.cells #[.int .i64 ch, .int .i64 rate, .int .i64 bits, .string fr, .slice a9 0 c9] 34) = w11 at *
            obtain ⟨x0, x1, x2, x3, x4⟩ := HX11.out.five
            obtain ⟨y0, y1, y2, y3, y4⟩ := HY11.out.five
            go_wp2_with fail
            refine (HSA.out a9 c9 _ (HST.out.below HB11.out) HA11.out).mono ?_
            rintro e w12 ⟨rfl, hb12⟩
            have HB12 := hid (HB11.out.trans hb12)
            clear hb12
            go_wp2_with fail
            refine (live_any _ (HWD.out.bw HB12.out)).mono ?_
            rintro e wl ⟨rfl, hbl⟩
            have HBL := hid ((HB12.out).trans hbl)
            clear hbl
            go_wp2
            go_returns
            exact ⟨rfl, HBL.out⟩
          | some ad =>
            have HDR := hid (fun W (h : Bw w4 W) => (show ChkAt W (if cap = k then some ad else some (ad.add (k * 2))) (l.drop k) from by
              split
              · rw [List.drop_of_length_le (by omega)]
                exact chk_nil W _
              · exact (chk_drop HS4.out k).below h))
            go_upto_region 14 with (at_builtin; refine wpList_app_chk rfl _ _ rfl w4.heap.size _ _ (l.take k) rfl HN4.out (some ad) k cap rfl HL1.out (fun h => by cases h) (chk_take HS4.out k) (by show 0 + k ≤ 1000000; omega) HBR.out.size ?_; intro v5 w5 hown5 hgrow5; rw [List.nil_append] at hown5; obtain ⟨ao5, cp5, hv5⟩ := own_slice hown5; rw [HL1.out] at hv5; subst hv5; have HO5 := hid (show w5.ownsRow w4.heap.size 42 2 (.slice ao5 k cp5) (l.take k).length (chkCells (l.take k)) from hown5); have HB5 := hid (show Bw w4 w5 from Below.trans HBR.out (own_grownJ HN4.out hgrow5 HBR.out.size)); clear hown5 hgrow5)
            clear x0 x1 x2 x3 x4
            obtain ⟨x0, x1, x2, x3, x4⟩ := (HB5.out.has HX4.out).five
            clear y0 y1 y2 y3
            have y0 := HB5.out.cell HY.out.1
            have y1 := HB5.out.cell HY.out.2.1
            go_upto_region 15 with (at_builtin; refine wpList_app_chk rfl _ _ rfl w4.heap.size _ _ [f] rfl (((Bw.refl w5).alloc (.cells #[.string f.typ, .string f.dat] 42)).own HO5.out) (some ⟨w5.heap.size, 0, none⟩) 1 1 rfl rfl (fun h => by cases h) (chk_one_new w5 f HF.out) (by rw [HL1.out]; omega) (HB5.out.alloc (.cells #[.string f.typ, .string f.dat] 42)).size ?_; intro v6 w6 hown6 hgrow6; obtain ⟨ao6, cp6, hv6⟩ := own_slice hown6; rw [HL2.out] at hv6; subst hv6; have HO6 := hid (show w6.ownsRow w4.heap.size 42 2 (.slice ao6 (k + 1) cp6) (l.take k ++ [f]).length (chkCells (l.take k ++ [f])) from hown6); have HB6 := hid (show Bw w4 w6 from Below.trans (HB5.out.alloc (.cells #[.string f.typ, .string f.dat] 42)) (own_grownJ (((Bw.refl w5).alloc (.cells #[.string f.typ, .string f.dat] 42)).own HO5.out) hgrow6 (HB5.out.alloc (.cells #[.string f.typ, .string f.dat] 42)).size)); clear hown6 hgrow6)
            clear x0 x1 x2 x3 x4
            obtain ⟨x0, x1, x2, x3, x4⟩ := (HB6.out.has HX4.out).five
            clear y0 y1
            go_upto_region 16 with (at_builtin; refine wpList_app_chk rfl _ _ rfl w4.heap.size _ _ (l.drop k) rfl HO6.out (if cap = k then some ad else some (ad.add (k * 2))) (len - k) (cap - k) rfl HL3.out (fun h => by split at h <;> cases h) (HDR.out w6 HB6.out) (by rw [HL2.out]; omega) HB6.out.size ?_; intro v7 w7 hown7 hgrow7; obtain ⟨ao7, cp7, hv7⟩ := own_slice hown7; rw [HL4.out] at hv7; subst hv7; have HO7 := hid (show w7.ownsRow w4.heap.size 42 2 (.slice ao7 (len + 1) cp7) (l.take k ++ [f] ++ l.drop k).length (chkCells (l.take k ++ [f] ++ l.drop k)) from hown7); have HB7 := hid (show Bw w4 w7 from Below.trans HB6.out (own_grownJ HO6.out hgrow7 HB6.out.size)); clear hown7 hgrow7)
            clear x0 x1 x2 x3 x4
            obtain ⟨x0, x1, x2, x3, x4⟩ := (HB7.out.has HX4.out).five
            clear HDR
            generalize (if cap = k then some ad else some (ad.add (k * 2))) = aS at *
            have y2 := HB7.out.cell HY.out.2.2.1
            have y3 := HB7.out.cell HY.out.2.2.2
            go_upto_region 17 with (at_builtin; refine wpList_app_chk rfl _ _ rfl w4.heap.size _ _ [d] rfl (((Bw.refl w7).alloc (.cells #[.string d.typ, .string d.dat] 42)).own HO7.out) (some ⟨w7.heap.size, 0, none⟩) 1 1 rfl rfl (fun h => by cases h) (chk_one_new w7 d HD.out) (by rw [HL4.out]; omega) (HB7.out.alloc (.cells #[.string d.typ, .string d.dat] 42)).size ?_; intro v8 w8 hown8 hgrow8; obtain ⟨ao8, cp8, hv8⟩ := own_slice hown8; rw [HL5.out] at hv8; subst hv8; have HO8 := hid (show w8.ownsRow w4.heap.size 42 2 (.slice ao8 (len + 2) cp8) (turnL l k f d).length (chkCells (turnL l k f d)) from hown8); have HB8 := hid (show Bw w4 w8 from Below.trans (HB7.out.alloc (.cells #[.string d.typ, .string d.dat] 42)) (own_grownJ (((Bw.refl w7).alloc (.cells #[.string d.typ, .string d.dat] 42)).own HO7.out) hgrow8 (HB7.out.alloc (.cells #[.string d.typ, .string d.dat] 42)).size)); clear hown8 hgrow8)
            clear x0 x1 x2 x3 x4
            obtain ⟨x0, x1, x2, x3, x4⟩ := (HB8.out.has HX4.out).five
            clear y2 y3
            have HC8 := hid (ChkAt.of_own HO8.out HTO.out)
            go_wp2_with fail
            refine (HJ.out ao8 cp8 w8 HC8.out).mono ?_
            rintro e w9 ⟨rfl, hb9⟩
            have HB9 := hid (HB8.out.trans hb9)
            have HX9 := hid (HB9.out.has HX4.out)
            clear hb9 x0 x1 x2 x3 x4
            go_wp2_with fail
            refine (HR.out _ (HWD.out.bw (HB4.out.trans HB9.out))).mono ?_
            rintro e w10 ⟨a9, c9, rfl, hb10, ha10⟩
            have HB10 := hid ((HB4.out.trans HB9.out).trans hb10)
            have HX10 := hid (hb10.has HX9.out)
            have HA10 := hid ha10
            clear hb10 ha10
            have HB11 := hid (HB10.out.alloc (.cells #[.int .i64 ch, .int .i64 rate, .int .i64 bits, .string fr, .slice a9 len c9] 34))
            have HX11 := hid (HX10.out.alloc (.cells #[.int .i64 ch, .int .i64 rate, .int .i64 bits, .string fr, .slice a9 len c9] 34))
            have HY11 := hid (Has.new w10 34 #[.int .i64 ch, .int .i64 rate, .int .i64 bits, .string fr, .slice a9 len c9])
            have HA11 := hid (HA10.out.below ((Bw.refl w10).alloc (.cells #[.int .i64 ch, .int .i64 rate, .int .i64 bits, .string fr, .slice a9 len c9] 34)))
            obtain ⟨nb, hnb⟩ : ∃ nb, w10.heap.size = nb := ⟨_, rfl⟩
            rw [hnb] at HY11
            go_upto_region 19 with fail
            generalize w10.alloc (.cells #[.int .i64 ch, .int .i64 rate, .int .i64 bits, .string fr, .slice a9 len c9] 34) = w11 at *
            obtain ⟨x0, x1, x2, x3, x4⟩ := HX11.out.five
            obtain ⟨y0, y1, y2, y3, y4⟩ := HY11.out.five
            go_wp2_with fail
            refine (HSA.out a9 c9 _ (HST.out.below HB11.out) HA11.out).mono ?_
            rintro e w12 ⟨rfl, hb12⟩
            have HB12 := hid (HB11.out.trans hb12)
            clear hb12
            go_wp2_with fail
            refine (live_any _ (HWD.out.bw HB12.out)).mono ?_
            rintro e wl ⟨rfl, hbl⟩
            have HBL := hid ((HB12.out).trans hbl)
            clear hbl
            go_wp2
            go_returns
            exact ⟨rfl, HBL.out⟩
          
        · obtain ⟨q, hq⟩ : ∃ q : Nat, cut = q := ⟨cut.toNat, by omega⟩
          have htm : (cut).tmod ((len : Int) + 1) = ((q % (len + 1) : Nat) : Int) := by
            rw [hq, Int.tmod_eq_emod_of_nonneg (by omega)]
            exact (Int.natCast_emod _ _).symm
          have hkl : q % (len + 1) < len + 1 := Nat.mod_lt _ (by omega)
          obtain ⟨k, hkk⟩ : ∃ k, q % (len + 1) = k := ⟨_, rfl⟩
          rw [hkk] at htm hkl
          clear hkk hq
          have k1 : k ≤ len := by omega
          have k2 : (k : Int) ≤ len := by omega
          have k3 : k ≤ cap := by omega
          have k4 : (k : Int) ≤ cap := by omega
          go_enter Tryd.func8, Tryd.ntmps8
          go_upto_region 1 with fail
          generalize w.alloc (.cells #[.int .i64 ch, .int .i64 rate, .int .i64 bits, .string fr, .slice A len cap] 34) = w1 at *
          obtain ⟨x0, x1, x2, x3, x4⟩ := HX1.out.five
          go_wp2_with fail
          refine (HSM.out _ (HST.out.below HB1.out)).mono ?_
          rintro e w2 ⟨rfl, hb2⟩
          have HB2 := hid (HB1.out.trans hb2)
          have HX2 := hid (hb2.has HX1.out)
          clear hb2 x0 x1 x2 x3 x4
          obtain ⟨x0, x1, x2, x3, x4⟩ := HX2.out.five
          go_wp2_with fail
          refine (HW0.out _ (HST.out.below HB2.out) (HWD.out.bw HB2.out)).mono ?_
          rintro e w3 ⟨rfl, hb3⟩
          have HB3 := hid (HB2.out.trans hb3)
          have HX3 := hid (hb3.has HX2.out)
          clear hb3 x0 x1 x2 x3 x4
          go_wp2_with fail
          refine (HSP.out w3).mono ?_
          rintro e w4 ⟨a, c, rfl, hb4, ha4⟩
          have HB4 := hid (HB3.out.trans hb4)
          have HX4 := hid (hb4.has HX3.out)
          have HA4 := hid ha4
          clear hb4 ha4
          obtain ⟨x0, x1, x2, x3, x4⟩ := HX4.out.five
          go_upto_region 13 with fail
          obtain ⟨t, hjt, HJN, HRD⟩ := HTN.out k k1
          have HJ := hid HJN
          have HR := hid HRD
          clear hjt HTN HJN HRD
          have HLL := hid hll
          have HL1 := hid (show (l.take k).length = k from by rw [List.length_take, hll]; omega)
          have HL2 := hid (show (l.take k ++ [f]).length = k + 1 from by rw [List.length_append, HL1.out]; rfl)
          have HL3 := hid (show (l.drop k).length = len - k from by rw [List.length_drop, hll])
          have HL4 := hid (show (l.take k ++ [f] ++ l.drop k).length = len + 1 from by rw [List.length_append, HL2.out, HL3.out]; omega)
          have HL5 := hid (show (l.take k ++ [f] ++ l.drop k ++ [d]).length = len + 2 from by rw [List.length_append, HL4.out]; rfl)
          have HTO := hid (fun c (hc : c ∈ turnL l k f d) => (show c.Ok from by
            rcases turn_mem hc with h | h | h
            · rw [h]; exact HF.out
            · rw [h]; exact HD.out
            · exact all_ok HST.out c h))
          obtain ⟨b, off, rfl, hbl, y0, y1, y2, y3⟩ := chk_two_at HA4.out
          have HY := hid (And.intro y0 (And.intro y1 (And.intro y2 y3)))
          have HN4 := hid (nil_own w4 w4.heap.size)
          have HBR := hid (Bw.refl w4)
          have HS4 := hid (HST.out.below HB4.out)
          cases A with
          | none =>
            obtain ⟨hl0, hc0⟩ := hno rfl
            subst hc0 hl0
            obtain rfl : k = 0 := by omega
            have hln : l = [] := List.length_eq_zero_iff.1 HLL.out
            have HDR := hid (fun W (h : Bw w4 W) => (show ChkAt W none (l.drop 0) from by rw [hln]; exact chk_nil W _))
            clear hln
            go_upto_region 14 with (at_builtin; refine wpList_app_chk rfl _ _ rfl w4.heap.size _ _ (l.take 0) rfl HN4.out none 0 0 rfl HL1.out (fun _ => ⟨rfl, rfl⟩) (chk_take HS4.out 0) (by show 0 + 0 ≤ 1000000; omega) HBR.out.size ?_; intro v5 w5 hown5 hgrow5; rw [List.nil_append] at hown5; obtain ⟨ao5, cp5, hv5⟩ := own_slice hown5; rw [HL1.out] at hv5; subst hv5; have HO5 := hid (show w5.ownsRow w4.heap.size 42 2 (.slice ao5 0 cp5) (l.take 0).length (chkCells (l.take 0)) from hown5); have HB5 := hid (show Bw w4 w5 from Below.trans HBR.out (own_grownJ HN4.out hgrow5 HBR.out.size)); clear hown5 hgrow5)
            clear x0 x1 x2 x3 x4
            obtain ⟨x0, x1, x2, x3, x4⟩ := (HB5.out.has HX4.out).five
            clear y0 y1 y2 y3
            have y0 := HB5.out.cell HY.out.1
            have y1 := HB5.out.cell HY.out.2.1
            go_upto_region 15 with (at_builtin; refine wpList_app_chk rfl _ _ rfl w4.heap.size _ _ [f] rfl (((Bw.refl w5).alloc (.cells #[.string f.typ, .string f.dat] 42)).own HO5.out) (some ⟨w5.heap.size, 0, none⟩) 1 1 rfl rfl (fun h => by cases h) (chk_one_new w5 f HF.out) (by rw [HL1.out]; omega) (HB5.out.alloc (.cells #[.string f.typ, .string f.dat] 42)).size ?_; intro v6 w6 hown6 hgrow6; obtain ⟨ao6, cp6, hv6⟩ := own_slice hown6; rw [HL2.out] at hv6; subst hv6; have HO6 := hid (show w6.ownsRow w4.heap.size 42 2 (.slice ao6 (0 + 1) cp6) (l.take 0 ++ [f]).length (chkCells (l.take 0 ++ [f])) from hown6); have HB6 := hid (show Bw w4 w6 from Below.trans (HB5.out.alloc (.cells #[.string f.typ, .string f.dat] 42)) (own_grownJ (((Bw.refl w5).alloc (.cells #[.string f.typ, .string f.dat] 42)).own HO5.out) hgrow6 (HB5.out.alloc (.cells #[.string f.typ, .string f.dat] 42)).size)); clear hown6 hgrow6)
            clear x0 x1 x2 x3 x4
            obtain ⟨x0, x1, x2, x3, x4⟩ := (HB6.out.has HX4.out).five
            clear y0 y1
            go_upto_region 16 with (at_builtin; refine wpList_app_chk rfl _ _ rfl w4.heap.size _ _ (l.drop 0) rfl HO6.out none 0 0 rfl HL3.out (fun _ => ⟨rfl, rfl⟩) (HDR.out w6 HB6.out) (by rw [HL2.out]; omega) HB6.out.size ?_; intro v7 w7 hown7 hgrow7; obtain ⟨ao7, cp7, hv7⟩ := own_slice hown7; rw [HL4.out] at hv7; subst hv7; have HO7 := hid (show w7.ownsRow w4.heap.size 42 2 (.slice ao7 (0 + 1) cp7) (l.take 0 ++ [f] ++ l.drop 0).length (chkCells (l.take 0 ++ [f] ++ l.drop 0)) from hown7); have HB7 := hid (show Bw w4 w7 from Below.trans HB6.out (own_grownJ HO6.out hgrow7 HB6.out.size)); clear hown7 hgrow7)
            clear x0 x1 x2 x3 x4
            obtain ⟨x0, x1, x2, x3, x4⟩ := (HB7.out.has HX4.out).five
            clear HDR
            have y2 := HB7.out.cell HY.out.2.2.1
            have y3 := HB7.out.cell HY.out.2.2.2
            go_upto_region 17 with (at_builtin; refine wpList_app_chk rfl _ _ rfl w4.heap.size _ _ [d] rfl (((Bw.refl w7).alloc (.cells #[.string d.typ, .string d.dat] 42)).own HO7.out) (some ⟨w7.heap.size, 0, none⟩) 1 1 rfl rfl (fun h => by cases h) (chk_one_new w7 d HD.out) (by rw [HL4.out]; omega) (HB7.out.alloc (.cells #[.string d.typ, .string d.dat] 42)).size ?_; intro v8 w8 hown8 hgrow8; obtain ⟨ao8, cp8, hv8⟩ := own_slice hown8; rw [HL5.out] at hv8; subst hv8; have HO8 := hid (show w8.ownsRow w4.heap.size 42 2 (.slice ao8 (0 + 2) cp8) (turnL l 0 f d).length (chkCells (turnL l 0 f d)) from hown8); have HB8 := hid (show Bw w4 w8 from Below.trans (HB7.out.alloc (.cells #[.string d.typ, .string d.dat] 42)) (own_grownJ (((Bw.refl w7).alloc (.cells #[.string d.typ, .string d.dat] 42)).own HO7.out) hgrow8 (HB7.out.alloc (.cells #[.string d.typ, .string d.dat] 42)).size)); clear hown8 hgrow8)
            clear x0 x1 x2 x3 x4
            obtain ⟨x0, x1, x2, x3, x4⟩ := (HB8.out.has HX4.out).five
            clear y2 y3
            have HC8 := hid (ChkAt.of_own HO8.out HTO.out)
            go_wp2_with fail
            refine (HJ.out ao8 cp8 w8 HC8.out).mono ?_
            rintro e w9 ⟨rfl, hb9⟩
            have HB9 := hid (HB8.out.trans hb9)
            have HX9 := hid (HB9.out.has HX4.out)
            clear hb9 x0 x1 x2 x3 x4
            go_wp2_with fail
            refine (HR.out _ (HWD.out.bw (HB4.out.trans HB9.out))).mono ?_
            rintro e w10 ⟨a9, c9, rfl, hb10, ha10⟩
            have HB10 := hid ((HB4.out.trans HB9.out).trans hb10)
            have HX10 := hid (hb10.has HX9.out)
            have HA10 := hid ha10
            clear hb10 ha10
            have HB11 := hid (HB10.out.alloc (.cells #[.int .i64 ch, .int .i64 rate, .int .i64 bits, .string fr, .slice a9 0 c9] 34))
            have HX11 := hid (HX10.out.alloc (.cells #[.int .i64 ch, .int .i64 rate, .int .i64 bits, .string fr, .slice a9 0 c9] 34))
            have HY11 := hid (Has.new w10 34 #[.int .i64 ch, .int .i64 rate, .int .i64 bits, .string fr, .slice a9 0 c9])
            have HA11 := hid (HA10.out.below ((Bw.refl w10).alloc (.cells #[.int .i64 ch, .int .i64 rate, .int .i64 bits, .string fr, .slice a9 0 c9] 34)))
            obtain ⟨nb, hnb⟩ : ∃ nb, w10.heap.size = nb := ⟨_, rfl⟩
            rw [hnb] at HY11
            go_upto_region 19 with fail
            generalize w10.alloc (.cells #[.int .i64 ch, .int .i64 rate, .int .i64 bits, .string fr, .slice a9 0 c9] 34) = w11 at *
            obtain ⟨x0, x1, x2, x3, x4⟩ := HX11.out.five
            obtain ⟨y0, y1, y2, y3, y4⟩ := HY11.out.five
            go_wp2_with fail
            refine (HSA.out a9 c9 _ (HST.out.below HB11.out) HA11.out).mono ?_
            rintro e w12 ⟨rfl, hb12⟩
            have HB12 := hid (HB11.out.trans hb12)
            clear hb12
            go_wp2_with fail
            refine (live_any _ (HWD.out.bw HB12.out)).mono ?_
            rintro e wl ⟨rfl, hbl⟩
            have HBL := hid ((HB12.out).trans hbl)
            clear hbl
            go_wp2
            go_returns
            exact ⟨rfl, HBL.out⟩
          | some ad =>
            have HDR := hid (fun W (h : Bw w4 W) => (show ChkAt W (if cap = k then some ad else some (ad.add (k * 2))) (l.drop k) from by
              split
              · rw [List.drop_of_length_le (by omega)]
                exact chk_nil W _
              · exact (chk_drop HS4.out k).below h))
            go_upto_region 14 with (at_builtin; refine wpList_app_chk rfl _ _ rfl w4.heap.size _ _ (l.take k) rfl HN4.out (some ad) k cap rfl HL1.out (fun h => by cases h) (chk_take HS4.out k) (by show 0 + k ≤ 1000000; omega) HBR.out.size ?_; intro v5 w5 hown5 hgrow5; rw [List.nil_append] at hown5; obtain ⟨ao5, cp5, hv5⟩ := own_slice hown5; rw [HL1.out] at hv5; subst hv5; have HO5 := hid (show w5.ownsRow w4.heap.size 42 2 (.slice ao5 k cp5) (l.take k).length (chkCells (l.take k)) from hown5); have HB5 := hid (show Bw w4 w5 from Below.trans HBR.out (own_grownJ HN4.out hgrow5 HBR.out.size)); clear hown5 hgrow5)
            clear x0 x1 x2 x3 x4
            obtain ⟨x0, x1, x2, x3, x4⟩ := (HB5.out.has HX4.out).five
            clear y0 y1 y2 y3
            have y0 := HB5.out.cell HY.out.1
            have y1 := HB5.out.cell HY.out.2.1
            go_upto_region 15 with (at_builtin; refine wpList_app_chk rfl _ _ rfl w4.heap.size _ _ [f] rfl (((Bw.refl w5).alloc (.cells #[.string f.typ, .string f.dat] 42)).own HO5.out) (some ⟨w5.heap.size, 0, none⟩) 1 1 rfl rfl (fun h => by cases h) (chk_one_new w5 f HF.out) (by rw [HL1.out]; omega) (HB5.out.alloc (.cells #[.string f.typ, .string f.dat] 42)).size ?_; intro v6 w6 hown6 hgrow6; obtain ⟨ao6, cp6, hv6⟩ := own_slice hown6; rw [HL2.out] at hv6; subst hv6; have HO6 := hid (show w6.ownsRow w4.heap.size 42 2 (.slice ao6 (k + 1) cp6) (l.take k ++ [f]).length (chkCells (l.take k ++ [f])) from hown6); have HB6 := hid (show Bw w4 w6 from Below.trans (HB5.out.alloc (.cells #[.string f.typ, .string f.dat] 42)) (own_grownJ (((Bw.refl w5).alloc (.cells #[.string f.typ, .string f.dat] 42)).own HO5.out) hgrow6 (HB5.out.alloc (.cells #[.string f.typ, .string f.dat] 42)).size)); clear hown6 hgrow6)
            clear x0 x1 x2 x3 x4
            obtain ⟨x0, x1, x2, x3, x4⟩ := (HB6.out.has HX4.out).five
            clear y0 y1
            go_upto_region 16 with (at_builtin; refine wpList_app_chk rfl _ _ rfl w4.heap.size _ _ (l.drop k) rfl HO6.out (if cap = k then some ad else some (ad.add (k * 2))) (len - k) (cap - k) rfl HL3.out (fun h => by split at h <;> cases h) (HDR.out w6 HB6.out) (by rw [HL2.out]; omega) HB6.out.size ?_; intro v7 w7 hown7 hgrow7; obtain ⟨ao7, cp7, hv7⟩ := own_slice hown7; rw [HL4.out] at hv7; subst hv7; have HO7 := hid (show w7.ownsRow w4.heap.size 42 2 (.slice ao7 (len + 1) cp7) (l.take k ++ [f] ++ l.drop k).length (chkCells (l.take k ++ [f] ++ l.drop k)) from hown7); have HB7 := hid (show Bw w4 w7 from Below.trans HB6.out (own_grownJ HO6.out hgrow7 HB6.out.size)); clear hown7 hgrow7)
            clear x0 x1 x2 x3 x4
            obtain ⟨x0, x1, x2, x3, x4⟩ := (HB7.out.has HX4.out).five
            clear HDR
            generalize (if cap = k then some ad else some (ad.add (k * 2))) = aS at *
            have y2 := HB7.out.cell HY.out.2.2.1
            have y3 := HB7.out.cell HY.out.2.2.2
            go_upto_region 17 with (at_builtin; refine wpList_app_chk rfl _ _ rfl w4.heap.size _ _ [d] rfl (((Bw.refl w7).alloc (.cells #[.string d.typ, .string d.dat] 42)).own HO7.out) (some ⟨w7.heap.size, 0, none⟩) 1 1 rfl rfl (fun h => by cases h) (chk_one_new w7 d HD.out) (by rw [HL4.out]; omega) (HB7.out.alloc (.cells #[.string d.typ, .string d.dat] 42)).size ?_; intro v8 w8 hown8 hgrow8; obtain ⟨ao8, cp8, hv8⟩ := own_slice hown8; rw [HL5.out] at hv8; subst hv8; have HO8 := hid (show w8.ownsRow w4.heap.size 42 2 (.slice ao8 (len + 2) cp8) (turnL l k f d).length (chkCells (turnL l k f d)) from hown8); have HB8 := hid (show Bw w4 w8 from Below.trans (HB7.out.alloc (.cells #[.string d.typ, .string d.dat] 42)) (own_grownJ (((Bw.refl w7).alloc (.cells #[.string d.typ, .string d.dat] 42)).own HO7.out) hgrow8 (HB7.out.alloc (.cells #[.string d.typ, .string d.dat] 42)).size)); clear hown8 hgrow8)
            clear x0 x1 x2 x3 x4
            obtain ⟨x0, x1, x2, x3, x4⟩ := (HB8.out.has HX4.out).five
            clear y2 y3
            have HC8 := hid (ChkAt.of_own HO8.out HTO.out)
            go_wp2_with fail
            refine (HJ.out ao8 cp8 w8 HC8.out).mono ?_
            rintro e w9 ⟨rfl, hb9⟩
            have HB9 := hid (HB8.out.trans hb9)
            have HX9 := hid (HB9.out.has HX4.out)
            clear hb9 x0 x1 x2 x3 x4
            go_wp2_with fail
            refine (HR.out _ (HWD.out.bw (HB4.out.trans HB9.out))).mono ?_
            rintro e w10 ⟨a9, c9, rfl, hb10, ha10⟩
            have HB10 := hid ((HB4.out.trans HB9.out).trans hb10)
            have HX10 := hid (hb10.has HX9.out)
            have HA10 := hid ha10
            clear hb10 ha10
            have HB11 := hid (HB10.out.alloc (.cells #[.int .i64 ch, .int .i64 rate, .int .i64 bits, .string fr, .slice a9 len c9] 34))
            have HX11 := hid (HX10.out.alloc (.cells #[.int .i64 ch, .int .i64 rate, .int .i64 bits, .string fr, .slice a9 len c9] 34))
            have HY11 := hid (Has.new w10 34 #[.int .i64 ch, .int .i64 rate, .int .i64 bits, .string fr, .slice a9 len c9])
            have HA11 := hid (HA10.out.below ((Bw.refl w10).alloc (.cells #[.int .i64 ch, .int .i64 rate, .int .i64 bits, .string fr, .slice a9 len c9] 34)))
            obtain ⟨nb, hnb⟩ : ∃ nb, w10.heap.size = nb := ⟨_, rfl⟩
            rw [hnb] at HY11
            go_upto_region 19 with fail
            generalize w10.alloc (.cells #[.int .i64 ch, .int .i64 rate, .int .i64 bits, .string fr, .slice a9 len c9] 34) = w11 at *
            obtain ⟨x0, x1, x2, x3, x4⟩ := HX11.out.five
            obtain ⟨y0, y1, y2, y3, y4⟩ := HY11.out.five
            go_wp2_with fail
            refine (HSA.out a9 c9 _ (HST.out.below HB11.out) HA11.out).mono ?_
            rintro e w12 ⟨rfl, hb12⟩
            have HB12 := hid (HB11.out.trans hb12)
            clear hb12
            go_wp2_with fail
            refine (live_any _ (HWD.out.bw HB12.out)).mono ?_
            rintro e wl ⟨rfl, hbl⟩
            have HBL := hid ((HB12.out).trans hbl)
            clear hbl
            go_wp2
            go_returns
            exact ⟨rfl, HBL.out⟩
          

/-! The frame: from the walk to the statement. -/
set_option maxRecDepth 100000 in
theorem lifted (os : Os) (started : os.Started) (H : Type) (enc : TypeId × Value → H) :
    ReturnsInHanded {} Tryd.checked os 8 .any (fun w args => (Rows.wavOrderSpec.pre enc Tryd.prog Tryd.f8 [] false w args ∧ laidMetH Tryd.prog Rows.wavSplitsRow.laid w) ∧ sizedMet enc Tryd.prog Tryd.f8 (OpenSpec.ofChange Rows.wavOrderSpec) false w args)
      (Rows.wavOrderSpec.post enc Tryd.prog Tryd.f8 false true false false) := by
  refine returnsInHanded_of_change_and (C := Tryd.checked) (X := fun w _ => laidMetH Tryd.prog Rows.wavSplitsRow.laid w) (fun _ _ _ hh h => h.of_heap hh) own started (by kernel_rfl) Tryd.func8
    (ChangeSpec.witness_shaped (enc := enc) (C := Tryd.checked) (os := os) (X := fun w _ => laidMetH Tryd.prog Rows.wavSplitsRow.laid w) false (World.laidAll Tryd.prog os Rows.wavSplitsRow.laid) #[.agg #[.int .i64 0, .int .i64 0, .int .i64 0, .string ⟨#[]⟩, .slice none 0 0], .int .i64 0] 8 (World.laidAll_os _ _ _) (World.shaped_of_ZipB (by kernel_rfl) (by kernel_rfl)) (by kernel_rfl) (by kernel_rfl) (by kernel_rfl) (laid_met os _)) ?_
  intro W base args ds gs before hval0 hW _ hsz0 hL _
  have hval : ∀ (j : Nat) t v, Tryd.f8.params[j]? = some t → args[j]? = some v → Value.okWide Tryd.prog W .any base t v := hval0
  have hW' := hW
  obtain ⟨p, q, hA0, hV, rfl, hfz, hnd⟩ := hW
  have hA : DataW.TrodAll enc Tryd.prog W 0 (fun _ => true) true Tryd.f8.params.toList args.toList ds p := hA0
  have hsz : (DataW.weightsEach Tryd.prog (Tryd.f8.params.toList ++ Rows.wavOrderSpec.plain.varTypes Tryd.prog) (ds ++ gs)).all (· ≤ reachBytes) = true := hsz0
  rw [Tryd.params8] at hA hval hsz
  obtain ⟨v0, vs0, d0, ds0, p0, q0, hargs, rfl, rfl, h0, r0⟩ := trodAll_cons hA
  obtain ⟨v1, vs1, d1, ds1, p1, q1, rfl, rfl, rfl, h1, r1⟩ := trodAll_cons r0
  obtain ⟨rfl, rfl, rfl⟩ := trodAll_nil r1
  obtain rfl : args = #[v0, v1] := by cases args; simp_all
  obtain ⟨rfl, rfl⟩ := trodVars_none hV
  have k0 := h0
  have lt0 : ∀ x ∈ p0, x.block < W.heap.size := by obtain ⟨m, hm⟩ := k0; exact DataW.trod_lt m _ _ _ hm
  obtain ⟨cs0, fd0, rfl, hlen0, rfl, hdl0, hf0⟩ := open_struct Tryd.underlying34 (by kernel_rfl) (by kernel_rfl) (hval 0 34 v0 rfl rfl) h0
  obtain ⟨x00, c00, _, _⟩ := hf0.int 0 rfl Tryd.underlying3
  obtain ⟨x01, c01, _, _⟩ := hf0.int 1 rfl Tryd.underlying3
  obtain ⟨x02, c02, _, _⟩ := hf0.int 2 rfl Tryd.underlying3
  obtain ⟨x03, c03, e03⟩ := hf0.string 3 rfl Tryd.underlying9
  have z0 := string_reach hsz (j := 0) (i := 3) rfl rfl Tryd.underlying34 rfl e03
  obtain ⟨u0, y0, n0, c04, _, t0⟩ := hf0 4 _ rfl
  obtain ⟨A0, len0, cap0, l0, he0, hl0, hll0, hst0⟩ := open_chk t0
  have nc0 := nil_cap t0 he0
  have cp0 := cap_le t0 he0
  subst he0
  obtain rfl := list5 hlen0 c00 c01 c02 c03 c04
  obtain ⟨a1, rfl, rfl, rfl, w1⟩ := open_int Tryd.underlying3 (hval 1 3 v1 rfl rfl) h1
  clear hA0 hval0
  try simp only [List.append_nil] at hW'
  refine (walk x00 x01 x02 x03 z0 A0 len0 cap0 hl0 l0 hll0 a1 w1 W hst0 nc0 (wid_of hL) cp0.1 cp0.2).mono fun e W' ⟨he, bel⟩ => ?_
  subst he
  exact ⟨_, rfl, _, _, _, [], _, [], hW', trodAll_mk1 (shut_bool Tryd.underlying4 _), (trodAll_cons_mk (Below.trod laidOut (by kernel_rfl) (of_decide_eq_true (by kernel_rfl)) k0 bel lt0) (trodAll_cons_mk (shut_int Tryd.underlying3 w1) trodAll_mk0)), rfl, Below.frame bel _, fun h => by cases h⟩

theorem holds : Rows.WavOrderSaid :=
  OpenClaim.holds_of_wide 8 Tryd.f8 rfl rfl rfl rfl rfl rfl rfl ⟨rfl, rfl, rfl, rfl, rfl⟩ rfl rfl rfl rfl rfl (by kernel_rfl) Tryd.func8 (by kernel_rfl)
    (of_decide_eq_true (by kernel_rfl)) (by unfold Func.isWrapper; first | (rw [if_pos (by decide +kernel)]; kernel_rfl) | (rw [if_neg (by decide +kernel)]; exact ⟨rfl, rfl⟩))
    (fun os started H enc _ => lifted os started H enc)

theorem proved : Rows.WavOrderCardSaid :=
  Claim7.holds_tied_plain_at .later [] [.data] true _ false
    holds (fun _ h => by cases h) (by kernel_rfl) (fun _ h => by cases h) wavOrder_row_tie rfl ⟨rfl, rfl⟩ (by kernel_rfl) rfl
    (fun f fn hf hfn => by
      obtain rfl : f = 8 := Option.some.inj ((show Tryd.prog.funcNamed "mortise/mortiselaw19.WavOrder" = some 8 by kernel_rfl).symm.trans hf) |>.symm
      obtain rfl : fn = Tryd.f8 := (Option.some.inj (Tryd.func8.symm.trans hfn)).symm
      exact ⟨by kernel_rfl, fun j t ht => by
        rw [Tryd.params8] at ht
        have hm : t ∈ [34, 3] := by simpa using Array.mem_of_getElem? ht
        have hall : ([34, 3].all fun u => !Tryd.prog.wantsStandIn u) = true := by kernel_rfl
        exact (show Tryd.prog.wantsStandIn t = false by simpa using List.all_eq_true.1 hall t hm)⟩)
    (by kernel_rfl)
end Go.Proofs.YtgkgimfdbkpbdaaDoor.wavOrder
