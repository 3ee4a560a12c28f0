/- The document's May and Write (contracts of the functions). -/
import Derived.Test.YtgkgimfdbkpbdaaDoorWavJ
import Derived.Test.YtgkgimfdbkpbdaaDoorWavD
namespace Go.Proofs.YtgkgimfdbkpbdaaDoor
open Go.RowKit
set_option linter.unusedVariables false
set_option linter.unusedSimpArgs false
theorem sound_shapeB {m : SndR} (h : soundB m = true) : shapeB m = true := by
  unfold soundB at h
  rw [Bool.and_eq_true, Bool.and_eq_true] at h
  exact h.1.1
set_option maxRecDepth 100000 in
set_option maxHeartbeats 8000000 in
theorem rmay_any (ch rate bits : Int) (fr : ByteArray) (hfz : fr.size ≤ 20000) (A : Option Addr) (len cap : Nat) (l : List ChkR) (hll : l.length = len) (h40 : l.length ≤ 40) (h50 : ∀ x ∈ l, x.dat.size ≤ 5000) (hA : A = none → len = 0 ∧ cap = 0) (w : World) (hst : ChkAt w A l) :
    Calls Tryd.prog 37 #[.agg #[.int .i64 ch, .int .i64 rate, .int .i64 bits, .string fr, .slice A len cap]] w fun e w' => e = .returned (.bool (soundB ⟨ch, rate, bits, fr, l⟩)) ∧ Bw w w' := by
  have HSH := hid (fun W => rshape_any ch rate bits fr l A len cap W)
  cases hsh : shapeB ⟨ch, rate, bits, fr, l⟩ with
  | false =>
    have HV := hid (show soundB ⟨ch, rate, bits, fr, l⟩ = false from by unfold soundB; rw [hsh]; rfl)
    rw [hsh] at HSH
    clear hsh hst h50
    have HB1 := hid ((Bw.refl w).alloc (.cells #[.int .i64 ch, .int .i64 rate, .int .i64 bits, .string fr, .slice A len cap] 34))
    have HX1 := hid (Has.new w 34 #[.int .i64 ch, .int .i64 rate, .int .i64 bits, .string fr, .slice A len cap])
    obtain ⟨na, hna⟩ : ∃ na, w.heap.size = na := ⟨_, rfl⟩
    rw [hna] at HX1
    go_enter Tryd.func37, Tryd.ntmps37
    go_upto_region 1 with fail
    generalize w.alloc (.cells #[.int .i64 ch, .int .i64 rate, .int .i64 bits, .string fr, .slice A len cap] 34) = w1 at *
    obtain ⟨x0, x1, x2, x3, x4⟩ := HX1.out.five
    go_wp2_with fail
    refine (HSH.out _).mono ?_
    rintro e w2 ⟨rfl, hb2⟩
    have HB2 := hid (HB1.out.trans hb2)
    have HX2 := hid (hb2.has HX1.out)
    clear hb2 x0 x1 x2 x3 x4
    obtain ⟨x0, x1, x2, x3, x4⟩ := HX2.out.five
    go_wp2
    go_returns
    exact ⟨by rw [HV.out]; rfl, HB2.out⟩
  | true =>
    obtain ⟨c, r, b, e1, e2, e3, hc1, hc2, hr1, hr2, hb⟩ := shape_nat hsh
    simp only at e1 e2 e3
    subst e1 e2 e3
    rw [hsh] at HSH
    have hlen40 : len ≤ 40 := by omega
    obtain ⟨ha1, ha2⟩ := alg_le hc2 hc1 hb
    have halg : algN ⟨(c : Nat), (r : Nat), (b : Nat), fr, l⟩ = c * b / 8 := by unfold algN; simp
    have HSV := hid (show soundB ⟨(c : Nat), (r : Nat), (b : Nat), fr, l⟩ = (decide (fr.size % (c * b / 8) = 0) && l.all moreB) from by unfold soundB; rw [hsh, halg, Bool.true_and])
    have hcb : c * b ≤ 512 := by
      have := Nat.mul_le_mul hc2 (show b ≤ 32 by omega)
      omega
    have HALL := hid (fun W (h : ChkAt W A l) => rAll_any c r b ⟨hc1, hc2⟩ ⟨hr1, hr2⟩ hb fr (by omega) A len cap l hll hlen40 hA W h (all_ok hst))
    have hfew : Few (⟨fmtT, fmtN c r b⟩ :: ⟨dataT, fr⟩ :: l) := ⟨by simp; omega, fun x hx => by
      rcases List.mem_cons.1 hx with rfl | hx
      · show (fmtN c r b).size ≤ _; rw [fmtN_size]; decide
      rcases List.mem_cons.1 hx with rfl | hx
      · exact hfz
      · have := h50 x hx; omega⟩
    have HSZ := hid (fun v cp W (h : ChkAt W v (⟨fmtT, fmtN c r b⟩ :: ⟨dataT, fr⟩ :: l)) => rSize_any v (len + 2) cp (by omega) _ (hid (by simp; omega)) hfew W h)
    obtain ⟨sm, hsm⟩ : ∃ sm, 12 + sumP (⟨fmtT, fmtN c r b⟩ :: ⟨dataT, fr⟩ :: l) = sm := ⟨_, rfl⟩
    rw [hsm] at HSZ
    have e1 : (c : Int) * b = ((c * b : Nat) : Int) := by simp
    obtain ⟨cb, hcbb⟩ : ∃ cb, c * b = cb := ⟨_, rfl⟩
    rw [hcbb] at e1 hcb ha1 ha2 HSV
    obtain ⟨al, hal⟩ : ∃ al, cb / 8 = al := ⟨_, rfl⟩
    rw [hal] at ha1 ha2 HSV
    have e2 : (cb : Int) / 8 = al := by omega
    have hal0 : ¬ al = 0 := by omega
    have htm : (fr.size : Int).tmod al = ((fr.size % al : Nat) : Int) := by
      rw [Int.tmod_eq_emod_of_nonneg (by omega)]
      exact (Int.natCast_emod _ _).symm
    obtain ⟨md, hmd⟩ : ∃ md, fr.size % al = md := ⟨_, rfl⟩
    rw [hmd] at htm HSV
    have HST := hid hst
    have HLL := hid hll
    have hc16 : c ≤ 16 := hc2
    have hb32 : b ≤ 32 := by omega
    clear hst hsh halg hcbb hal hmd hfew hsm h50 hc1 hc2 hr1 hr2 hb h40
    by_cases h0 : md = 0
    · have HV := hid (show soundB ⟨(c : Nat), (r : Nat), (b : Nat), fr, l⟩ = l.all moreB from by rw [HSV.out, decide_eq_true h0, Bool.true_and])
      rw [h0] at htm
      clear h0 HSV
      have HB1 := hid ((Bw.refl w).alloc (.cells #[.int .i64 (c : Nat), .int .i64 (r : Nat), .int .i64 (b : Nat), .string fr, .slice A len cap] 34))
      have HX1 := hid (Has.new w 34 #[.int .i64 (c : Nat), .int .i64 (r : Nat), .int .i64 (b : Nat), .string fr, .slice A len cap])
      obtain ⟨na, hna⟩ : ∃ na, w.heap.size = na := ⟨_, rfl⟩
      rw [hna] at HX1
      go_enter Tryd.func37, Tryd.ntmps37
      go_upto_region 1 with fail
      generalize w.alloc (.cells #[.int .i64 (c : Nat), .int .i64 (r : Nat), .int .i64 (b : Nat), .string fr, .slice A len cap] 34) = w1 at *
      obtain ⟨x0, x1, x2, x3, x4⟩ := HX1.out.five
      go_wp2_with fail
      refine (HSH.out _).mono ?_
      rintro e w2 ⟨rfl, hb2⟩
      have HB2 := hid (HB1.out.trans hb2)
      have HX2 := hid (hb2.has HX1.out)
      clear hb2 x0 x1 x2 x3 x4
      obtain ⟨x0, x1, x2, x3, x4⟩ := HX2.out.five
      go_wp2_with fail
      refine (HALL.out _ (HST.out.below HB2.out)).mono ?_
      rintro e w3 ⟨v, cp, rfl, hb3, ha3⟩
      have HB3 := hid (HB2.out.trans hb3)
      have HX3 := hid (hb3.has HX2.out)
      have HA3 := hid ha3
      clear hb3 ha3 x0 x1 x2 x3 x4
      go_wp2_with fail
      refine (HSZ.out v cp _ HA3.out).mono ?_
      rintro e w4 ⟨rfl, hb4⟩
      have HB4 := hid (HB3.out.trans hb4)
      have HX4 := hid (hb4.has HX3.out)
      clear hb4
      go_wp2
      go_loopw [3] (fun vi wr => ∃ k : Nat, k ≤ len ∧ vi = .int .i64 k ∧ Hid ((l.drop k).all moreB = l.all moreB) ∧ Bw w4 wr) (fun vi _ => len - (intOf vi).toNat)
      case atStart => exact ⟨0, Nat.zero_le _, rfl, hid rfl, Bw.refl _⟩
      case round =>
        rename World => wr
        obtain ⟨k, hk, rfl, HQ, hw⟩ := hrel
        have HW := hid hw
        have HXr := hid (hw.has HX4.out)
        obtain ⟨x0, x1, x2, x3, x4⟩ := HXr.out.five
        by_cases hlt : k < len
        · have hk1 : (k : Int) < len := by omega
          have hkl : k < l.length := by rw [HLL.out]; exact hlt
          obtain ⟨b2, off, rfl, hbb, c0, c1, hok⟩ := (HST.out.below (HB4.out.trans hw)) k hkl
          have hnx : (l.drop k).all moreB = (moreB (l[k]'hkl) && (l.drop (k + 1)).all moreB) := by rw [List.drop_eq_getElem_cons hkl, List.all_cons]
          have HTY := hid (fun W => rType_any (l[k]'hkl).typ hok.1 W)
          obtain ⟨⟨T, D⟩, hx⟩ : ∃ x, l[k]'hkl = x := ⟨_, rfl⟩
          rw [hx] at c0 c1 hnx HTY
          simp only at c0 c1 HTY
          have HN := hid (HQ.out.symm.trans hnx)
          have HM := hid (show moreB ⟨T, D⟩ = (typB T && decide (T ≠ fmtT) && decide (T ≠ dataT)) from rfl)
          clear hx hnx hw hbb c1 hok hkl
          cases htb : typB T with
          | false =>
            rw [htb] at HTY HM
            have HVV := hid (show soundB ⟨(c : Nat), (r : Nat), (b : Nat), fr, l⟩ = false from by rw [HV.out, HN.out, HM.out]; rfl)
            clear HN HM HQ
            go_wp2_with fail
            refine (HTY.out _).mono ?_
            rintro e w5 ⟨rfl, hb5⟩
            have HW5 := hid (HW.out.trans hb5)
            have HX5 := hid (hb5.has HXr.out)
            have c5 := hb5.cell c0
            clear hb5 c0 x0 x1 x2 x3 x4
            obtain ⟨x0, x1, x2, x3, x4⟩ := HX5.out.five
            go_wp2
            go_returns
            exact ⟨by rw [HVV.out]; rfl, HB4.out.trans HW5.out⟩
          | true =>
            rw [htb] at HTY HM
            by_cases h1 : T = fmtT
            · have HVV := hid (show soundB ⟨(c : Nat), (r : Nat), (b : Nat), fr, l⟩ = false from by rw [HV.out, HN.out, HM.out, h1]; rfl)
              clear HN HM HQ
              unfold fmtT at h1
              subst h1
              go_wp2_with fail
              refine (HTY.out _).mono ?_
              rintro e w5 ⟨rfl, hb5⟩
              have HW5 := hid (HW.out.trans hb5)
              have HX5 := hid (hb5.has HXr.out)
              have c5 := hb5.cell c0
              clear hb5 c0 x0 x1 x2 x3 x4
              obtain ⟨x0, x1, x2, x3, x4⟩ := HX5.out.five
              go_wp2
              go_returns
              exact ⟨by rw [HVV.out]; rfl, HB4.out.trans HW5.out⟩
            · by_cases h2 : T = dataT
              · have HVV := hid (show soundB ⟨(c : Nat), (r : Nat), (b : Nat), fr, l⟩ = false from by rw [HV.out, HN.out, HM.out, h2]; rfl)
                clear HN HM HQ
                unfold dataT at h2
                subst h2
                go_wp2_with fail
                refine (HTY.out _).mono ?_
                rintro e w5 ⟨rfl, hb5⟩
                have HW5 := hid (HW.out.trans hb5)
                have HX5 := hid (hb5.has HXr.out)
                have c5 := hb5.cell c0
                clear hb5 c0 x0 x1 x2 x3 x4
                obtain ⟨x0, x1, x2, x3, x4⟩ := HX5.out.five
                go_wp2
                go_returns
                exact ⟨by rw [HVV.out]; rfl, HB4.out.trans HW5.out⟩
              · have HQ2 : Hid ((l.drop (k + 1)).all moreB = l.all moreB) := hid (by rw [HN.out, HM.out, decide_eq_true h1, decide_eq_true h2]; rfl)
                have s1 := str_nl h1
                have s2 := str_nl h2
                have g1 : ¬ T = ⟨#[102, 109, 116, 32]⟩ := h1
                have g2 : ¬ T = ⟨#[100, 97, 116, 97]⟩ := h2
                clear HN HM HQ h1 h2
                go_wp2_with fail
                refine (HTY.out _).mono ?_
                rintro e w5 ⟨rfl, hb5⟩
                have HW5 := hid (HW.out.trans hb5)
                have HX5 := hid (hb5.has HXr.out)
                have c5 := hb5.cell c0
                clear hb5 c0 x0 x1 x2 x3 x4
                obtain ⟨x0, x1, x2, x3, x4⟩ := HX5.out.five
                go_wp2
                exact ⟨⟨k + 1, by omega, by go_num, HQ2, HW5.out⟩, by simp [intOf]; omega⟩
        · obtain rfl : k = len := by omega
          have HVV := hid (show soundB ⟨(c : Nat), (r : Nat), (b : Nat), fr, l⟩ = true from by rw [HV.out, ← HQ.out, List.drop_of_length_le (by rw [HLL.out]; exact Nat.le_refl _)]; rfl)
          go_wp2
          go_returns
          exact ⟨by rw [HVV.out]; rfl, HB4.out.trans HW.out⟩
    · have HV := hid (show soundB ⟨(c : Nat), (r : Nat), (b : Nat), fr, l⟩ = false from by rw [HSV.out, decide_eq_false h0, Bool.false_and])
      clear HSV
      have HB1 := hid ((Bw.refl w).alloc (.cells #[.int .i64 (c : Nat), .int .i64 (r : Nat), .int .i64 (b : Nat), .string fr, .slice A len cap] 34))
      have HX1 := hid (Has.new w 34 #[.int .i64 (c : Nat), .int .i64 (r : Nat), .int .i64 (b : Nat), .string fr, .slice A len cap])
      obtain ⟨na, hna⟩ : ∃ na, w.heap.size = na := ⟨_, rfl⟩
      rw [hna] at HX1
      go_enter Tryd.func37, Tryd.ntmps37
      go_upto_region 1 with fail
      generalize w.alloc (.cells #[.int .i64 (c : Nat), .int .i64 (r : Nat), .int .i64 (b : Nat), .string fr, .slice A len cap] 34) = w1 at *
      obtain ⟨x0, x1, x2, x3, x4⟩ := HX1.out.five
      go_wp2_with fail
      refine (HSH.out _).mono ?_
      rintro e w2 ⟨rfl, hb2⟩
      have HB2 := hid (HB1.out.trans hb2)
      have HX2 := hid (hb2.has HX1.out)
      clear hb2 x0 x1 x2 x3 x4
      obtain ⟨x0, x1, x2, x3, x4⟩ := HX2.out.five
      go_wp2
      go_returns
      exact ⟨by rw [HV.out]; rfl, HB2.out⟩
set_option maxRecDepth 100000 in
set_option maxHeartbeats 8000000 in
theorem rwrite_any (ch rate bits : Int) (fr : ByteArray) (hfz : fr.size ≤ 20000) (A : Option Addr) (len cap : Nat) (l : List ChkR) (hll : l.length = len) (h40 : l.length ≤ 40) (h50 : ∀ x ∈ l, x.dat.size ≤ 5000) (hA : A = none → len = 0 ∧ cap = 0) (w : World) (hst : ChkAt w A l) :
    Calls Tryd.prog 17 #[.agg #[.int .i64 ch, .int .i64 rate, .int .i64 bits, .string fr, .slice A len cap]] w fun e w' => e = .returned (.tuple #[.string (writeP ⟨ch, rate, bits, fr, l⟩).1, .int .i64 (writeP ⟨ch, rate, bits, fr, l⟩).2]) ∧ Bw w w' := by
  have HMY := hid (fun W (h : ChkAt W A l) => rmay_any ch rate bits fr hfz A len cap l hll h40 h50 hA W h)
  have HST := hid hst
  cases hs : soundB ⟨ch, rate, bits, fr, l⟩ with
  | false =>
    rw [hs] at HMY
    have HP := hid (show writeP ⟨ch, rate, bits, fr, l⟩ = (⟨#[]⟩, 1) from if_neg (by rw [hs]; decide))
    clear hs hst h50
    have HB1 := hid ((Bw.refl w).alloc (.cells #[.int .i64 ch, .int .i64 rate, .int .i64 bits, .string fr, .slice A len cap] 34))
    have HX1 := hid (Has.new w 34 #[.int .i64 ch, .int .i64 rate, .int .i64 bits, .string fr, .slice A len cap])
    obtain ⟨na, hna⟩ : ∃ na, w.heap.size = na := ⟨_, rfl⟩
    rw [hna] at HX1
    go_enter Tryd.func17, Tryd.ntmps17
    go_upto_region 1 with fail
    generalize w.alloc (.cells #[.int .i64 ch, .int .i64 rate, .int .i64 bits, .string fr, .slice A len cap] 34) = w1 at *
    obtain ⟨x0, x1, x2, x3, x4⟩ := HX1.out.five
    go_wp2_with fail
    refine (HMY.out _ (HST.out.below HB1.out)).mono ?_
    rintro e w2 ⟨rfl, hb2⟩
    have HB2 := hid (HB1.out.trans hb2)
    have HX2 := hid (hb2.has HX1.out)
    clear hb2 x0 x1 x2 x3 x4
    obtain ⟨x0, x1, x2, x3, x4⟩ := HX2.out.five
    go_wp2
    go_returns
    exact ⟨by rw [HP.out]; rfl, HB2.out⟩
  | true =>
    rw [hs] at HMY
    have HP := hid (show writeP ⟨ch, rate, bits, fr, l⟩ = (joinT waveT (allC ⟨ch, rate, bits, fr, l⟩), 0) from if_pos hs)
    have hfew := write_few (m := ⟨ch, rate, bits, fr, l⟩) hfz h40 h50
    have hjp := joinB_ok wave_typ (all_types hs)
    obtain ⟨c, r, b, e1, e2, e3, hc1, hc2, hr1, hr2, hb⟩ := shape_nat (sound_shapeB hs)
    simp only at e1 e2 e3
    subst e1 e2 e3
    have hlen40 : len ≤ 40 := by omega
    have HALL := hid (fun W (h : ChkAt W A l) => rAll_any c r b ⟨hc1, hc2⟩ ⟨hr1, hr2⟩ hb fr (by omega) A len cap l hll hlen40 hA W h (all_ok hst))
    have hal : allC ⟨(c : Nat), (r : Nat), (b : Nat), fr, l⟩ = ⟨fmtT, fmtN c r b⟩ :: ⟨dataT, fr⟩ :: l := by
      unfold allC fmtS
      simp
    rw [hal] at HP hfew hjp
    have HJN := hid (fun v cp W (h : ChkAt W v (⟨fmtT, fmtN c r b⟩ :: ⟨dataT, fr⟩ :: l)) => rjoin_any waveT (by decide) v (len + 2) cp (by omega) _ (hid (by simp; omega)) hfew W h)
    rw [hjp] at HJN
    unfold waveT at HJN
    clear hs hst h50 hfew hjp hal hc1 hc2 hr1 hr2 hb
    have HB1 := hid ((Bw.refl w).alloc (.cells #[.int .i64 (c : Nat), .int .i64 (r : Nat), .int .i64 (b : Nat), .string fr, .slice A len cap] 34))
    have HX1 := hid (Has.new w 34 #[.int .i64 (c : Nat), .int .i64 (r : Nat), .int .i64 (b : Nat), .string fr, .slice A len cap])
    obtain ⟨na, hna⟩ : ∃ na, w.heap.size = na := ⟨_, rfl⟩
    rw [hna] at HX1
    go_enter Tryd.func17, Tryd.ntmps17
    go_upto_region 1 with fail
    generalize w.alloc (.cells #[.int .i64 (c : Nat), .int .i64 (r : Nat), .int .i64 (b : Nat), .string fr, .slice A len cap] 34) = w1 at *
    obtain ⟨x0, x1, x2, x3, x4⟩ := HX1.out.five
    go_wp2_with fail
    refine (HMY.out _ (HST.out.below HB1.out)).mono ?_
    rintro e w2 ⟨rfl, hb2⟩
    have HB2 := hid (HB1.out.trans hb2)
    have HX2 := hid (hb2.has HX1.out)
    clear hb2 x0 x1 x2 x3 x4
    obtain ⟨x0, x1, x2, x3, x4⟩ := HX2.out.five
    go_wp2_with fail
    refine (HALL.out _ (HST.out.below HB2.out)).mono ?_
    rintro e w3 ⟨v, cp, rfl, hb3, ha3⟩
    have HB3 := hid (HB2.out.trans hb3)
    have HA3 := hid ha3
    clear hb3 ha3 x0 x1 x2 x3 x4
    go_wp2_with fail
    refine (HJN.out v cp _ HA3.out).mono ?_
    rintro e w4 ⟨rfl, hb4⟩
    have HB4 := hid (HB3.out.trans hb4)
    clear hb4
    go_wp2
    go_returns
    exact ⟨by rw [HP.out]; rfl, HB4.out⟩
end Go.Proofs.YtgkgimfdbkpbdaaDoor
