/- The model of a file (contract of the method). -/
import Derived.Test.YtciaebhkemdilaaElfI
import Derived.Deep.RegionLaw
namespace Go.Proofs.Ytciaebhkemdilaa
open Go.RowKit
set_option linter.unusedVariables false
set_option linter.unusedSimpArgs false
set_option maxRecDepth 100000 in
set_option maxHeartbeats 8000000 in
theorem model_any (s : ByteArray) (hs : s.size ≤ 100000000) (w : World) :
    Calls Try.prog 21 #[.agg #[.int .i64 0, .string s]] w (ModelQ s w) := by
  have hl : s.size ≤ lim := by unfold lim; omega
  have HBAD := hid (fun e w' (hb : Bw w w') (E : Int) (h : readE s = E) (h0 : E ≠ 0) (he : e = pan E) => (show ModelQ s w e w' from ⟨hb, .inr ⟨by rw [h]; exact h0, by rw [h]; exact he⟩⟩))
  have HF0 := hid (Has.new w 49 #[.int .i64 0, .string s])
  have HR0 := hid (Has.new (w.alloc (.cells #[.int .i64 0, .string s] 49)) 27 zElf)
  have HF1 := hid (HF0.out.alloc (.cells zElf 27))
  have HB1 := hid (((Bw.refl w).alloc (.cells #[.int .i64 0, .string s] 49)).alloc (.cells zElf 27))
  obtain ⟨fb, hfb⟩ : ∃ fb, w.heap.size = fb := ⟨_, rfl⟩
  have HFB := hid hfb
  rw [World.size_alloc, hfb] at HR0
  rw [hfb] at HF1
  clear HF0
  by_cases h64 : s.size < 64
  · have HC := hid (fun W => head_cut s hl h64 W)
    have HE := hid (hd_cut h64)
    clear h64
    unfold zElf at HR0 HF1 HB1
    go_enter Try.func21, Try.ntmps21
    go_wp2_with fail
    generalize (w.alloc (.cells #[.int .i64 0, .string s] 49)).alloc _ = w1 at *
    have f0 : w1.cell? ⟨fb, 0, none⟩ = some (.int .i64 0) := HF1.out.cell 0
    have f1 : w1.cell? ⟨fb, 1, none⟩ = some (.string s) := HF1.out.cell 1
    go_wp2_with fail
    refine (HC.out w1).mono ?_
    rintro e w2 ⟨rfl, hb2⟩
    exact ⟨rfl, HBAD.out _ _ (HB1.out.trans hb2) 2 (by rw [read_hd (by rw [HE.out]; decide), HE.out]) (by decide) rfl⟩
  have HH := hid (fun W => head_any s hl (by omega) W)
  have HHD := hid (hd_is0 h64)
  have HHB := hid (fun (h : ¬ HeadOk s) => hd_bad h64 h)
  have HLE := hid (fun (h : HeadOk s) => (show nSeg s ≤ 1000 ∧ 2 ≤ nSec s ∧ nSec s ≤ 1002 from ⟨h.seg, h.two, h.few⟩))
  have lp := n8_lt s 32
  have ls := n8_lt s 40
  have HPO := hid (fun p k W (h : p + k ≤ s.size) => part_ok s hl p k h W)
  have HPB := hid (fun p k W (hp : p < 18446744073709551616) (hk : k ≤ 1099511627776) (h : s.size < p + k) => part_bad s hl p k hp hk h W)
  unfold HeadQ at HH
  have HGOOD := hid (fun e w' (hb : Bw w w') (h1 : hdE s = 0) (h2 : cutB s = false) (h3 : segsE s = 0) (h4 : ZeroOk s) (h5 : secsE s = 0) (h6 : NamesOk s) (x : ∃ a c b d, e = .returned (.agg #[.int .i64 (n2 s 16), .int .i64 (n2 s 18), .int .u64 (n8 s 24), .int .i64 (n4 s 48), .slice a (nSeg s) c, .slice b (nSec s - 2) d]) ∧ w'.ownsRow w.heap.size 61 8 (.slice a (nSeg s) c) (nSeg s) (segCells (segL s)) ∧ w'.ownsRow w.heap.size 43 10 (.slice b (nSec s - 2) d) (nSec s - 2) (secCells (secL s))) =>
    (show ModelQ s w e w' from ⟨hb, .inl ⟨(read_ok h1 h2 h3 h4 h5 h6).1, x⟩⟩))
  have HCUT := hid (show cutB s = ((decide (0 < nSeg s) && decide (s.size < pAt s + 56 * nSeg s)) || decide (s.size < sAt s + 64 * nSec s)) from rfl)
  have lp2 : pAt s < 18446744073709551616 := lp
  have ls2 : sAt s < 18446744073709551616 := ls
  clear lp ls
  obtain ⟨ty, hty⟩ : ∃ x, n2 s 16 = x := ⟨_, rfl⟩
  obtain ⟨ma, hma⟩ : ∃ x, n2 s 18 = x := ⟨_, rfl⟩
  obtain ⟨en, hen⟩ : ∃ x, n8 s 24 = x := ⟨_, rfl⟩
  obtain ⟨fl, hfl⟩ : ∃ x, n4 s 48 = x := ⟨_, rfl⟩
  obtain ⟨pP, hpP⟩ : ∃ x, pAt s = x := ⟨_, rfl⟩
  obtain ⟨pS, hpS⟩ : ∃ x, sAt s = x := ⟨_, rfl⟩
  obtain ⟨n, hn⟩ : ∃ x, nSeg s = x := ⟨_, rfl⟩
  obtain ⟨k, hk⟩ : ∃ x, nSec s = x := ⟨_, rfl⟩
  rw [hty, hma, hen, hfl] at HGOOD HH
  rw [hn, hk] at HGOOD
  rw [hpP, hpS, hn, hk] at HH HCUT
  rw [hpP] at lp2
  rw [hpS] at ls2
  rw [hn, hk] at HLE
  have HPP := hid hpP
  have HPS := hid hpS
  have HNN := hid hn
  have HNK := hid hk
  clear hty hma hen hfl hpP hpS hn hk
  unfold zElf at HR0 HF1 HB1
  go_enter Try.func21, Try.ntmps21
  go_wp2_with fail
  generalize (w.alloc (.cells #[.int .i64 0, .string s] 49)).alloc _ = w1 at *
  have f0 : w1.cell? ⟨fb, 0, none⟩ = some (.int .i64 0) := HF1.out.cell 0
  have f1 : w1.cell? ⟨fb, 1, none⟩ = some (.string s) := HF1.out.cell 1
  go_wp2_with fail
  refine (HH.out w1).mono ?_
  rintro e w2 ⟨hb2, hx⟩
  have HB2 := hid (HB1.out.trans hb2)
  have HF2 := hid (hb2.has HF1.out)
  have HR2 := hid (hb2.has HR0.out)
  clear hb2 HF1 HR0 HB1 f0 f1
  rcases hx with ⟨hok, rfl⟩ | ⟨hok, rfl⟩
  case inr => exact ⟨rfl, HBAD.out _ _ HB2.out 3 (by rw [read_hd (by rw [HHB.out hok]; decide), HHB.out hok]) (by decide) rfl⟩
  have HOK := hid (HHD.out.1 hok)
  obtain ⟨hn9, hk2, hk9⟩ := HLE.out hok
  clear hok HLE HHD HHB
  have HC3 := hid (Has.new w2 86 #[.int .i64 ty, .int .i64 ma, .int .u64 en, .int .i64 fl, .slice none 0 0, .slice none 0 0, .int .u64 pP, .int .u64 pS, .int .i64 n, .int .i64 k])
  obtain ⟨hb, hhb⟩ : ∃ hb, w2.heap.size = hb := ⟨_, rfl⟩
  rw [hhb] at HC3
  have HF3 := hid (HF2.out.alloc (.cells #[.int .i64 ty, .int .i64 ma, .int .u64 en, .int .i64 fl, .slice none 0 0, .slice none 0 0, .int .u64 pP, .int .u64 pS, .int .i64 n, .int .i64 k] 86))
  have HR3 := hid (HR2.out.alloc (.cells #[.int .i64 ty, .int .i64 ma, .int .u64 en, .int .i64 fl, .slice none 0 0, .slice none 0 0, .int .u64 pP, .int .u64 pS, .int .i64 n, .int .i64 k] 86))
  have HB3 := hid (HB2.out.alloc (.cells #[.int .i64 ty, .int .i64 ma, .int .u64 en, .int .i64 fl, .slice none 0 0, .slice none 0 0, .int .u64 pP, .int .u64 pS, .int .i64 n, .int .i64 k] 86))
  go_upto_region 2 with fail
  generalize w2.alloc (.cells #[.int .i64 ty, .int .i64 ma, .int .u64 en, .int .i64 fl, .slice none 0 0, .slice none 0 0, .int .u64 pP, .int .u64 pS, .int .i64 n, .int .i64 k] 86) = w3 at *
  clear HF2 HR2 HB2 hhb
  refine wp_region_list ?_
  refine wpList_plain rfl fun K hK => ?_
  go_simp
  refine hK _ _ ?_
  clear hK K
  refine wpList_load_mid rfl 27 (.tmp 11) rfl hb 0 rfl [.int .i64 ty, .int .i64 ma, .int .u64 en, .int .i64 fl, .slice none 0 0, .slice none 0 0] _ (HC3.out.pre _ (by
    intro j v hv
    match j, hv with
    | 0, hv => exact hv
    | 1, hv => exact hv
    | 2, hv => exact hv
    | 3, hv => exact hv
    | 4, hv => exact hv
    | 5, hv => exact hv)) Try.underlying27 rfl zeroElfInfo ?_
  have HM4 := hid (Has.new w3 27 #[.int .i64 ty, .int .i64 ma, .int .u64 en, .int .i64 fl, .slice none 0 0, .slice none 0 0])
  obtain ⟨mb, hmb⟩ : ∃ mb, w3.heap.size = mb := ⟨_, rfl⟩
  rw [hmb] at HM4
  have HMOD := hid (show ModW w fb (fb + 1) hb mb s #[.int .i64 ty, .int .i64 ma, .int .u64 en, .int .i64 fl, .slice none 0 0, .slice none 0 0, .int .u64 pP, .int .u64 pS, .int .i64 n, .int .i64 k] #[.int .i64 ty, .int .i64 ma, .int .u64 en, .int .i64 fl, .slice none 0 0, .slice none 0 0] _ from
    ⟨HB3.out.alloc _, HF3.out.alloc _, HR3.out.alloc _, HC3.out.alloc _, HM4.out, by rw [HFB.out]; exact Nat.le_refl _, by rw [HFB.out]; omega, by rw [← hmb]; exact HB3.out.size, by have := HR3.out.lt; omega⟩)
  go_upto_region 3 with fail
  generalize w3.alloc (.cells #[.int .i64 ty, .int .i64 ma, .int .u64 en, .int .i64 fl, .slice none 0 0, .slice none 0 0] 27) = w4 at *
  clear HM4 hmb HB3 HF3 HR3 HC3 hfb
  have v56 : IntKind.i64.wrap ((n : Int) * 56) = (n : Int) * 56 := IntWalk.i64_in _ (by omega)
  have v64 : IntKind.i64.wrap ((k : Int) * 64) = (k : Int) * 64 := IntWalk.i64_in _ (by omega)
  have e56 : ((n * 56 : Nat) : Int) = (n : Int) * 56 := by omega
  have e64 : ((k * 64 : Nat) : Int) = (k : Int) * 64 := by omega
  have HP5 := hid (fun W => HPO.out pP (n * 56) W)
  have HP5B := hid (fun W => HPB.out pP (n * 56) W lp2 (by omega))
  have HP6 := hid (fun W => HPO.out pS (k * 64) W)
  have HP6B := hid (fun W => HPB.out pS (k * 64) W ls2 (by omega))
  rw [e56] at HP5 HP5B
  rw [e64] at HP6 HP6B
  clear e56 e64 HPO HPB lp2 ls2
  have HMID := hid (fun (c : s.size < pS + k * 64) => (show cutB s = true from by rw [HCUT.out, Bool.or_eq_true]; exact .inr (decide_eq_true (by omega))))
  have HMID2 := hid (fun (c0 : 0 < n) (c : s.size < pP + n * 56) => (show cutB s = true from by rw [HCUT.out, Bool.or_eq_true, Bool.and_eq_true]; exact .inl ⟨decide_eq_true c0, decide_eq_true (by omega)⟩))
  have HNC := hid (fun (c : pS + k * 64 ≤ s.size) (c1 : 0 < n → pP + n * 56 ≤ s.size) => (show cutB s = false from by
    rw [HCUT.out, decide_eq_false (show ¬ s.size < pS + 64 * k by omega), Bool.or_false]
    by_cases c0 : 0 < n
    · rw [decide_eq_false (show ¬ s.size < pP + 56 * n by have := c1 c0; omega), Bool.and_false]
    · rw [decide_eq_false c0, Bool.false_and]))
  clear HCUT
  have g8 : w4.cell? ⟨hb, 8, none⟩ = some (.int .i64 n) := HMOD.out.hd.cell 8
  have HKP : ∀ sg, Hid (∀ W, (0 < n → Rdr W sg pP (s.extract pP (pP + n * 56)) 0) → True) := fun _ => hid (fun _ _ => trivial)
  clear HKP
  rcases Nat.eq_zero_or_pos n with hn0 | hn0
  case' inl =>
    have HN0 := hid hn0
    have c0 : ¬ (0 : Int) < n := by omega
    obtain ⟨sg, hsg⟩ : ∃ sg : Nat, sg = 0 := ⟨0, rfl⟩
    have HSG := hid (show 0 < n → Rdr w4 sg pP (s.extract pP (pP + n * 56)) 0 ∧ w.heap.size ≤ sg ∧ pP + n * 56 ≤ s.size from fun h => by omega)
    have HM5 := hid HMOD.out
    clear hsg hn0 HMOD
    have g2 : w4.cell? ⟨hb, 7, none⟩ = some (.int .u64 pS) := HM5.out.hd.cell 7
    have g9 : w4.cell? ⟨hb, 9, none⟩ = some (.int .i64 k) := HM5.out.hd.cell 9
    have f0 : w4.cell? ⟨fb, 0, none⟩ = some (.int .i64 0) := HM5.out.fi.cell 0
    have f1 : w4.cell? ⟨fb, 1, none⟩ = some (.string s) := HM5.out.fi.cell 1
    go_wp2_with fail
    clear g2 g9 f0 f1 c0
    skip
  case' inr =>
    have c0 : (0 : Int) < n := by omega
    have HN0 := hid hn0
    have g6 : w4.cell? ⟨hb, 6, none⟩ = some (.int .u64 pP) := HMOD.out.hd.cell 6
    have f0 : w4.cell? ⟨fb, 0, none⟩ = some (.int .i64 0) := HMOD.out.fi.cell 0
    have f1 : w4.cell? ⟨fb, 1, none⟩ = some (.string s) := HMOD.out.fi.cell 1
    clear hn0
    go_wp2_with fail
    by_cases hc : pP + n * 56 ≤ s.size
    case neg =>
      refine (HP5B.out w4 (by omega)).mono ?_
      rintro e w5 ⟨rfl, hb5⟩
      exact ⟨rfl, HBAD.out _ _ (HMOD.out.bw.trans hb5) 2 (read_cut HOK.out (HMID2.out HN0.out (by omega))) (by decide) rfl⟩
    refine (HP5.out w4 hc).mono ?_
    rintro e w5 ⟨sg, rfl, hrd, hge, hb5⟩
    have HM5 := hid (HMOD.out.bw' hb5)
    have HSG := hid (show 0 < n → Rdr w5 sg pP (s.extract pP (pP + n * 56)) 0 ∧ w.heap.size ≤ sg ∧ pP + n * 56 ≤ s.size from fun _ => ⟨hrd, Nat.le_trans HMOD.out.bw.size hge, hc⟩)
    clear hrd hge hb5 hc g6 g8 f0 f1 HMOD
    have g2 : w5.cell? ⟨hb, 7, none⟩ = some (.int .u64 pS) := HM5.out.hd.cell 7
    have g9 : w5.cell? ⟨hb, 9, none⟩ = some (.int .i64 k) := HM5.out.hd.cell 9
    have f0 : w5.cell? ⟨fb, 0, none⟩ = some (.int .i64 0) := HM5.out.fi.cell 0
    have f1 : w5.cell? ⟨fb, 1, none⟩ = some (.string s) := HM5.out.fi.cell 1
    go_wp2_with fail
    clear g2 g9 f0 f1 c0
    skip
  all_goals
    rename World => wx
    by_cases hc : pS + k * 64 ≤ s.size
    case neg =>
      refine (HP6B.out _ (by omega)).mono ?_
      rintro e w6 ⟨rfl, hb6⟩
      exact ⟨rfl, HBAD.out _ _ (HM5.out.bw.trans hb6) 2 (read_cut HOK.out (HMID.out (by omega))) (by decide) rfl⟩
    refine (HP6.out _ hc).mono ?_
    rintro e w6 ⟨sc, rfl, hrd, hge, hb6⟩
    have HM6 := hid (HM5.out.bw' hb6)
    have HSG6 := hid (show 0 < n → Rdr w6 sg pP (s.extract pP (pP + n * 56)) (56 * 0) from fun h => hb6.has (HSG.out h).1)
    have HSGC := hid (show 0 < n → w.heap.size ≤ sg ∧ pP + n * 56 ≤ s.size ∧ sg ≠ sc from fun h => ⟨(HSG.out h).2.1, (HSG.out h).2.2, by have := Has.lt (HSG.out h).1; omega⟩)
    have HSC6 := hid hrd
    have HSCG := hid (show w.heap.size ≤ sc from Nat.le_trans HM5.out.bw.size hge)
    have HNCU := hid (HNC.out hc (fun h => (HSG.out h).2.2))
    have HHC := hid hc
    clear hrd hge hb6 hc HM5 HSG HP5 HP5B HP6 HP6B HMID HMID2 HNC
    have g8 : w6.cell? ⟨hb, 8, none⟩ = some (.int .i64 n) := HM6.out.hd.cell 8
    go_wp2
    clear g8
    have hlT : s.size ≤ 281474976710656 := hl
    have HSEG := hid (fun j (hj : j < n) W (h : Rdr W sg pP (s.extract pP (pP + n * 56)) (56 * j)) => segment_any s hl sg pP (by have := (HSGC.out (by omega)).2.1; omega) pP (n * 56) (56 * j) (HSGC.out (by omega)).2.1 (by omega) W h)
    obtain ⟨T1, hT1⟩ : ∃ T, s.extract pP (pP + n * 56) = T := ⟨_, rfl⟩
    rw [hT1] at HSEG HSG6
    obtain ⟨F, hF⟩ : ∃ F : Nat → Int, F = fun i => segE s (pP + 56 * i) := ⟨_, rfl⟩
    have HF := hid (fun i => (show F i = segE s (pP + 56 * i) by rw [hF]))
    have HFE := hid (show segsE s = firstE F n 0 from by
      unfold segsE segAt
      rw [HPP.out, HNN.out, hF])
    clear hF hT1 hlT
    obtain ⟨i0, hinf, hz0, hz1, hz2⟩ := info_parts segKInfo
    go_loopw [32] (fun vj wr => ∃ (j : Nat) (vr : Value), j ≤ n ∧ vj = .int .i64 j ∧ ModW w fb (fb + 1) hb mb s #[.int .i64 ty, .int .i64 ma, .int .u64 en, .int .i64 fl, .slice none 0 0, .slice none 0 0, .int .u64 pP, .int .u64 pS, .int .i64 n, .int .i64 k] #[.int .i64 ty, .int .i64 ma, .int .u64 en, .int .i64 fl, vr, .slice none 0 0] wr ∧ wr.ownsRow w.heap.size 61 8 vr j (segCells ((List.range j).map fun i => segC s (pP + 56 * i))) ∧ (0 < n → Rdr wr sg pP T1 (56 * j)) ∧ Rdr wr sc pS (s.extract pS (pS + k * 64)) 0 ∧ Hid (firstE F (n - j) j = firstE F n 0)) (fun vj _ => n - (intOf vj).toNat)
    case atStart => exact ⟨0, .slice none 0 0, by omega, rfl, HM6.out, ⟨rfl, .inl ⟨rfl, rfl⟩⟩, HSG6.out, HSC6.out, hid rfl⟩
    case round =>
      rename World => wr
      obtain ⟨j, vr, hj, rfl, hmo, hro, hsg, hsc, HE⟩ := hrel
      have HMO := hid hmo
      have HRO := hid hro
      have HSG := hid hsg
      have HSC := hid hsc
      obtain ⟨ao, cp, rfl⟩ := own_slice hro
      clear hmo hro hsg hsc
      by_cases hlt : j < n
      · have c0 : (j : Int) < n := by omega
        have HLT := hid hlt
        have HV := hid (show wrap64 ((j : Int) + 1) = ((j + 1 : Nat) : Int) by have h1 := hlt; unfold wrap64; omega)
        first
          | (exfalso; have h1 := HN0.out; omega)
          | (have HRJ := hid (HSG.out (by omega))
             obtain ⟨hw1, hw2, hw3⟩ := HSGC.out (show 0 < n by omega)
             have HSD := hid (show Rdr wr.drew sg pP T1 (56 * j) from Has.drew HRJ.out)
             have HMD := hid (HMO.out.bw' ((Bw.refl wr).drewN 1))
             have HNE := hid (HMO.out.rdr HRJ.out)
             have HX3 := hid (fun W (h : ModW w fb (fb + 1) hb mb s #[.int .i64 ty, .int .i64 ma, .int .u64 en, .int .i64 fl, .slice none 0 0, .slice none 0 0, .int .u64 pP, .int .u64 pS, .int .i64 n, .int .i64 k] #[.int .i64 ty, .int .i64 ma, .int .u64 en, .int .i64 fl, .slice ao j cp, .slice none 0 0] W) => (show W.cell? ⟨mb, 4, none⟩ = some (.slice ao j cp) ∧ W.cell? ⟨fb, 0, none⟩ = some (.int .i64 0) ∧ W.cell? ⟨fb, 1, none⟩ = some (.string s) from ⟨h.md.cell 4, h.fi.cell 0, h.fi.cell 1⟩))
             have HSJ := hid (HSEG.out j hlt wr.drew HSD.out)
             have x0 : wr.drew.cell? ⟨mb, 4, none⟩ = some (.slice ao j cp) := (HX3.out _ HMD.out).1
             have x1 : wr.drew.cell? ⟨fb, 0, none⟩ = some (.int .i64 0) := (HX3.out _ HMD.out).2.1
             have x2 : wr.drew.cell? ⟨fb, 1, none⟩ = some (.string s) := (HX3.out _ HMD.out).2.2
             have HW1 := hid hw1
             clear hw1 hw2 hw3 HSEG
             by_cases hE : segE s (pP + 56 * j) = 0
             case neg =>
               have HFN := hid (show segsE s = segE s (pP + 56 * j) from by
                 rw [HFE.out, ← HE.out, first_bad (by omega) (by rw [HF.out]; exact hE), HF.out])
               go_upto_region 9 with fail
               go_region_dies
               all_goals
                 refine HSJ.out.mono ?_
                 rintro e w7 ⟨hk7, hx⟩
                 rcases hx with ⟨h, -⟩ | ⟨-, rfl⟩
                 · exact absurd h hE
                 · exact ⟨rfl, HBAD.out _ _ (HMD.out.bw.keep1 HW1.out hk7) _ (by rw [read_seg HOK.out HNCU.out (by rw [HFN.out]; exact hE), HFN.out]) hE rfl⟩
             have HE2 := hid (show firstE F (n - (j + 1)) (j + 1) = firstE F n 0 from by
               rw [← HE.out, first_next (k := n - j) (by omega) (by rw [HF.out]; exact hE)]
               congr 1)
             have HSK := hid (HSJ.out.mono (R' := fun e w' => e = .returned (.agg #[.int .i64 (n4 s (pP + 56 * j)), .int .i64 (n4 s (pP + 56 * j + 4)), .int .i64 (n8 s (pP + 56 * j + 8)), .int .u64 (n8 s (pP + 56 * j + 16)), .int .u64 (n8 s (pP + 56 * j + 24)), .int .i64 (n8 s (pP + 56 * j + 32)), .int .u64 (n8 s (pP + 56 * j + 40)), .int .u64 (n8 s (pP + 56 * j + 48))]) ∧ Rdr w' sg pP T1 (56 * j + 56) ∧ Keeps (· = sg) wr.drew w') (fun e w' h => by
               obtain ⟨h1, h2⟩ := h
               rcases h2 with ⟨_, h2, h3⟩ | ⟨h2, _⟩
               · exact ⟨h2, h3, h1⟩
               · exact absurd hE h2))
             clear hE HSJ
             go_upto_region 9 with fail
             go_region_law (first | (refine step_app1 (by rfl) (.tmp 35) (.tmp 39) 24 (by rfl) w.heap.size 61 i0 (.agg #[.int .i64 0, .int .i64 0, .int .i64 0, .int .u64 0, .int .u64 0, .int .i64 0, .int .u64 0, .int .u64 0]) 8 64 Try.underlying24 hinf hz0 hz1 hz2 (by rfl) (by decide) (.slice ao j cp) j _ (by rfl) HRO7.out w7.heap.size #[.int .i64 (n4 s (pP + 56 * j)), .int .i64 (n4 s (pP + 56 * j + 4)), .int .i64 (n8 s (pP + 56 * j + 8)), .int .u64 (n8 s (pP + 56 * j + 16)), .int .u64 (n8 s (pP + 56 * j + 24)), .int .i64 (n8 s (pP + 56 * j + 32)), .int .u64 (n8 s (pP + 56 * j + 40)), .int .u64 (n8 s (pP + 56 * j + 48))] (by rfl) (Has.new w7 _ _) rfl (by intro u hu; simp at hu; rcases hu with rfl | rfl | rfl | rfl | rfl | rfl | rfl | rfl <;> rfl) (by unfold maxLen; omega) (by omega) (Nat.le_trans HM7.out.bw.size (by simp)) ?_; intro ao8 cp8 w8 hown8 hgrow8; have HO8 := hid hown8; have HG8 := hid hgrow8; have HM8 := hid (HMA.out.grown HRO7.out HG8.out (by decide) (by decide) (by decide)); have z4 : w8.cell? ⟨mb, 4, none⟩ = some (.slice ao j cp) := HM8.out.md.cell 4; have zf := HM8.out.md.frozen 4; clear hown8 hgrow8) | (go_simp; go_at_call 44; refine HSK.out.mono ?_; rintro e w7 ⟨rfl, hr7, hk7⟩; have HM7 := hid (HMD.out.keep hk7 HW1.out HNE.out.1 HNE.out.2.1 HNE.out.2.2.1 HNE.out.2.2.2); have HR7 := hid hr7; have HMA := hid (HM7.out.bw' ((Bw.refl w7).alloc (.cells #[.int .i64 (n4 s (pP + 56 * j)), .int .i64 (n4 s (pP + 56 * j + 4)), .int .i64 (n8 s (pP + 56 * j + 8)), .int .u64 (n8 s (pP + 56 * j + 16)), .int .u64 (n8 s (pP + 56 * j + 24)), .int .i64 (n8 s (pP + 56 * j + 32)), .int .u64 (n8 s (pP + 56 * j + 40)), .int .u64 (n8 s (pP + 56 * j + 48))] 61))); have HRO7 := hid (((Bw.refl w7).alloc (.cells #[.int .i64 (n4 s (pP + 56 * j)), .int .i64 (n4 s (pP + 56 * j + 4)), .int .i64 (n8 s (pP + 56 * j + 8)), .int .u64 (n8 s (pP + 56 * j + 16)), .int .u64 (n8 s (pP + 56 * j + 24)), .int .i64 (n8 s (pP + 56 * j + 32)), .int .u64 (n8 s (pP + 56 * j + 40)), .int .u64 (n8 s (pP + 56 * j + 48))] 61)).own (own_keep HRO.out (fun b hb => hk7.block b (own_lt HRO.out hb) (fun e => own_ne_has HRO.out HRJ.out (by decide) (by rw [hb, e]))))); have HK7 := hid hk7; have y0 : w7.cell? ⟨mb, 4, none⟩ = some (.slice ao j cp) := HM7.out.md.cell 4; have y1 : (w7.alloc (.cells #[.int .i64 (n4 s (pP + 56 * j)), .int .i64 (n4 s (pP + 56 * j + 4)), .int .i64 (n8 s (pP + 56 * j + 8)), .int .u64 (n8 s (pP + 56 * j + 16)), .int .u64 (n8 s (pP + 56 * j + 24)), .int .i64 (n8 s (pP + 56 * j + 32)), .int .u64 (n8 s (pP + 56 * j + 40)), .int .u64 (n8 s (pP + 56 * j + 48))] 61)).cell? ⟨mb, 4, none⟩ = some (.slice ao j cp) := HMA.out.md.cell 4; clear hr7 hk7))
             all_goals
               have HR8 := hid (has_grown (HR7.out.alloc _) HG8.out (own_ne_has HRO7.out (HR7.out.alloc _) (by decide)))
               have HSC7 := hid (show Rdr w7 sc pS _ 0 from HK7.out.has (Has.drew HSC.out) (show ¬ sc = sg from fun e => (HSGC.out (by have := HLT.out; omega)).2.2 e.symm))
               have HSC8 := hid (has_grown (HSC7.out.alloc _) HG8.out (own_ne_has HRO7.out (HSC7.out.alloc _) (by decide)))
               have HM9 := hid (HM8.out.put 4 (.slice ao8 (j + 1) cp8))
               simp only [List.setIfInBounds_toArray, List.set_cons_zero, List.set_cons_succ] at HM9
               have HR9 := hid (show Rdr _ sg pP T1 (56 * (j + 1)) from Has.far HR8.out (p := ⟨mb, 4, none⟩) (show sg ≠ mb from fun e => HNE.out.2.2.2 e.symm) (.slice ao8 (j + 1) cp8))
               have HSC9 := hid (show Rdr _ sc pS _ 0 from Has.far HSC8.out (p := ⟨mb, 4, none⟩) (show sc ≠ mb from fun e => (HM8.out.rdr HSC8.out).2.2.2 e.symm) (.slice ao8 (j + 1) cp8))
               have HO9 := hid (own_keep HO8.out fun b hb => Below.heap_setCell w8 ⟨mb, 4, none⟩ (.slice ao8 (j + 1) cp8) b (fun e => own_ne_has HO8.out HM8.out.md (by decide) (by rw [hb, e])))
               generalize World.setCell w8 _ _ = w9 at *
               clear z4 zf y0 y1
               go_wp2
               exact ⟨⟨j + 1, .slice ao8 (j + 1) cp8, HLT.out, by first | rw [HV.out] | rfl, HM9.out, by
                 rw [List.range_succ, List.map_append, segCells_app]
                 exact HO9.out, fun _ => HR9.out, HSC9.out, HE2.out⟩, by have h1 := HLT.out; first | rw [HV.out] | skip; simp only [intOf]; omega⟩)
      · obtain rfl : j = n := by omega
        have HFZ := hid (show segsE s = 0 from by
          rw [HFE.out, ← HE.out, Nat.sub_self]
          rfl)
        have c0 : ¬ (j : Int) < j := by omega
        have f0 : wr.cell? ⟨fb, 0, none⟩ = some (.int .i64 0) := HMO.out.fi.cell 0
        have f1 : wr.cell? ⟨fb, 1, none⟩ = some (.string s) := HMO.out.fi.cell 1
        have g9 : wr.cell? ⟨hb, 9, none⟩ = some (.int .i64 k) := HMO.out.hd.cell 9
        clear HSG HSEG hinf hz0 hz1 hz2 HF HE HFE
        obtain ⟨r, hr⟩ : ∃ r, k = r + 2 := ⟨k - 2, by omega⟩
        have HRK := hid hr
        have HSX := hid (fun W (h : Rdr W sc pS (s.extract pS (pS + k * 64)) 0) => sections_any s hl sc pS (by have h1 := HHC.out; have h2 : s.size ≤ 281474976710656 := hl; omega) pS k hk2 hk9 (by have h1 := HHC.out; omega) W (by rw [Nat.mul_comm]; exact h))
        have HZOK := hid (show ZeroOk s ↔ ∀ i, i < 64 → bt s (pS + i) = 0 from by unfold ZeroOk; rw [HPS.out])
        have HSEE := hid (show secsE s = firstE (fun i => secE s (pS + 64 * i)) (k - 1) 1 from by unfold secsE secAt; rw [HPS.out, HNK.out])
        have hD1 : secD s (pS + 64 * (r + 1)) = lastD s := by unfold lastD secAt; rw [HPS.out, HNK.out, hr]; rfl
        have hDz : (secD s (pS + 64 * (r + 1))).size ≤ lim := by
          unfold secD
          split
          · unfold lim; decide
          · have h2 : s.size ≤ lim := hl
            have h3 : (s.extract (n8 s (pS + 64 * (r + 1) + 24)) (n8 s (pS + 64 * (r + 1) + 24) + n8 s (pS + 64 * (r + 1) + 32))).size ≤ s.size := by simp; omega
            omega
        have HNMD := hid (fun lb W (h : RowZ 95 12 W lb (r + 1) (fun i => secV s (pS + 64 * (i + 1)) ⟨#[]⟩)) => named_any s hl pS r lb (by omega) (secD s (pS + 64 * (r + 1))) rfl hDz W h)
        have HNMK := hid (show NmOk s pS (r + 1) (secD s (pS + 64 * (r + 1))) ↔ NamesOk s from by
          unfold NmOk
          rw [hD1]
          constructor
          · intro ⟨a, b, c⟩
            refine ⟨?_, fun i h1 h2 => ?_, ?_⟩
            · unfold secAt; rw [HPS.out, HNK.out, hr]; exact a
            · have := b (i - 1) (by rw [HNK.out, hr] at h2; omega)
              rw [show i - 1 + 1 = i by omega] at this
              unfold namP secAt
              rw [HPS.out]; exact this
            · unfold namP secAt; rw [HPS.out, HNK.out, hr]; exact c
          · intro h
            refine ⟨?_, fun i hi => ?_, ?_⟩
            · have := h.typ; unfold secAt at this; rw [HPS.out, HNK.out, hr] at this; exact this
            · have := h.all (i + 1) (by omega) (by rw [HNK.out, hr]; omega)
              unfold namP secAt at this
              rw [HPS.out] at this; exact this
            · have := h.own; unfold namP secAt at this; rw [HPS.out, HNK.out, hr] at this; exact this)
        clear hr hDz
        go_wp2_with fail
        clear f0 f1 g9 c0
        refine (HSX.out wr HSC.out).mono ?_
        rintro e w7 ⟨hk7, hx⟩
        have HNE := hid (HMO.out.rdr HSC.out)
        have HM7 := hid (HMO.out.keep hk7 HSCG.out HNE.out.1 HNE.out.2.1 HNE.out.2.2.1 HNE.out.2.2.2)
        have HO7 := hid (own_keep HRO.out (fun b hb => hk7.block b (own_lt HRO.out hb) (fun e => own_ne_has HRO.out HSC.out (by decide) (by rw [hb, e]))))
        have HWZ := hid (show w.heap.size ≤ wr.heap.size from HMO.out.bw.size)
        clear hk7 HMO HSC HSX HNE
        rcases hx with ⟨hz, hf, lb, rfl, hlb, hrow⟩ | ⟨hz, rfl⟩ | ⟨hz, hf, rfl⟩
        case inr.inl => exact ⟨rfl, HBAD.out _ _ HM7.out.bw 3 (read_zero HOK.out HNCU.out HFZ.out (fun h => hz (HZOK.out.1 h))) (by decide) rfl⟩
        case inr.inr => exact ⟨rfl, HBAD.out _ _ HM7.out.bw _ (by rw [read_sec HOK.out HNCU.out HFZ.out (HZOK.out.2 hz) (by rw [HSEE.out]; exact hf), HSEE.out]) hf rfl⟩
        have HZ := hid (HZOK.out.2 hz)
        have HSZ := hid (HSEE.out.trans hf)
        have HLB := hid (show w.heap.size ≤ lb by have := HWZ.out; omega)
        have hk1 : k - 1 = r + 1 := by have := HRK.out; omega
        rw [hk1] at hrow ⊢
        have HROW := hid hrow
        clear hz hf hlb hk1 HZOK HSEE hrow
        go_wp2_with fail
        refine (HNMD.out lb w7 HROW.out).mono ?_
        rintro e w8 ⟨hk8, hx⟩
        have HNE := hid (HM7.out.row HROW.out (by decide) (by decide) (by decide))
        have HM8 := hid (HM7.out.keep hk8 HLB.out HNE.out.1 HNE.out.2.1 HNE.out.2.2.1 HNE.out.2.2.2)
        have HO8 := hid (own_keep HO7.out (fun b hb => hk8.block b (own_lt HO7.out hb) (fun e => by
          obtain ⟨cs, ha, _⟩ := HROW.out.has
          exact own_ne_has HO7.out ha (by decide) (by rw [hb, e]))))
        clear hk8 HNE HM7 HO7 HROW HNMD
        rcases hx with ⟨hn, rfl, hrow⟩ | ⟨hn, rfl⟩
        case inr => exact ⟨rfl, HBAD.out _ _ HM8.out.bw 3 (read_nam HOK.out HNCU.out HFZ.out HZ.out HSZ.out (fun h => hn (HNMK.out.2 h))) (by decide) rfl⟩
        have HNOK := hid (HNMK.out.1 hn)
        have HROW := hid hrow
        have HDL := hid (show secD s (pS + 64 * (r + 1)) = lastD s from by unfold lastD secAt; rw [HPS.out, HNK.out, HRK.out]; rfl)
        rw [HDL.out] at HROW
        rw [show r + 1 - 1 = r by omega]
        clear hn hrow HNMK
        go_wp2
        obtain ⟨i0, hinf, hz0, hz1, hz2⟩ := info_parts secKInfo
        have hr9 : r ≤ 1000 := by have := HRK.out; omega
        clear HSC6 HSG6 HM6 HSGC HHC
        go_loopw [50] (fun vq wr => ∃ (q : Nat) (vr : Value), q ≤ r ∧ vq = .int .i64 q ∧ ModW w fb (fb + 1) hb mb s #[.int .i64 ty, .int .i64 ma, .int .u64 en, .int .i64 fl, .slice none 0 0, .slice none 0 0, .int .u64 pP, .int .u64 pS, .int .i64 j, .int .i64 k] #[.int .i64 ty, .int .i64 ma, .int .u64 en, .int .i64 fl, .slice ao j cp, vr] wr ∧ wr.ownsRow w.heap.size 43 10 vr q (secCells ((List.range q).map fun i => secC s (pS + 64 * (i + 1)) (namT (lastD s) (n4 s (pS + 64 * (i + 1)))) (secD s (pS + 64 * (i + 1))))) ∧ wr.ownsRow w.heap.size 61 8 (.slice ao j cp) j (segCells ((List.range j).map fun i => segC s (pP + 56 * i))) ∧ RowZ 95 12 wr lb (r + 1) (fun i => secV s (pS + 64 * (i + 1)) (namT (lastD s) (n4 s (pS + 64 * (i + 1)))))) (fun vq _ => r - (intOf vq).toNat)
        case atStart => exact ⟨0, .slice none 0 0, by omega, rfl, HM8.out, ⟨rfl, .inl ⟨rfl, rfl⟩⟩, HO8.out, HROW.out⟩
        case round =>
          rename World => wr
          obtain ⟨q, vr, hq, rfl, hmo, hro, hso, hrw⟩ := hrel
          have HMO := hid hmo
          have HRO := hid hro
          have HSO := hid hso
          have HRW := hid hrw
          obtain ⟨bo, dp, rfl⟩ := own_slice hro
          clear hmo hro hso hrw HM8 HO8 HROW
          by_cases hlt : q < r
          · have c0 : (q : Int) < r := by omega
            have HLT := hid hlt
            have HV := hid (show wrap64 ((q : Int) + 1) = ((q + 1 : Nat) : Int) by have h1 := hlt; unfold wrap64; omega)
            obtain ⟨nm, hnm⟩ : ∃ nm, namT (lastD s) (n4 s (pS + 64 * (q + 1))) = nm := ⟨_, rfl⟩
            obtain ⟨dt, hdt⟩ : ∃ dt, secD s (pS + 64 * (q + 1)) = dt := ⟨_, rfl⟩
            have HNM := hid hnm
            have HDT := hid hdt
            have hls : s.size ≤ 281474976710656 := hl
            have hdz : ∀ h, (secD s h).size ≤ s.size := fun h => by
              unfold secD
              split
              · exact Nat.zero_le _
              · simp; omega
            have HCN := hid (fun W => lib_Clone nm (by rw [← hnm]; unfold namT; have := hdz (secAt s (nSec s - 1)); unfold lastD; simp; omega) W)
            have HCD := hid (fun W => lib_Clone dt (by rw [← hdt]; have := hdz (pS + 64 * (q + 1)); omega) W)
            have HRG := hid (show wr.rangeAt lb (q * 12) [.string nm, .int .i64 (n4 s (pS + 64 * (q + 1) + 4)), .int .u64 (n8 s (pS + 64 * (q + 1) + 8)), .int .u64 (n8 s (pS + 64 * (q + 1) + 16)), .string ⟨#[]⟩, .int .i64 (secZ s (pS + 64 * (q + 1))), .int .i64 (n4 s (pS + 64 * (q + 1) + 40)), .int .i64 (n4 s (pS + 64 * (q + 1) + 44)), .int .u64 (n8 s (pS + 64 * (q + 1) + 48)), .int .u64 (n8 s (pS + 64 * (q + 1) + 56)), .int .i64 (n4 s (pS + 64 * (q + 1))), .string dt] from by
              have := HRW.out.range (i := q) (by omega)
              unfold secV at this
              rw [hnm, hdt] at this
              exact this)
            clear hnm hdt hdz hls
            have HX := hid (Has.new wr 95 zSec)
            have HXS := hid (HX.out.set [.string nm, .int .i64 (n4 s (pS + 64 * (q + 1) + 4)), .int .u64 (n8 s (pS + 64 * (q + 1) + 8)), .int .u64 (n8 s (pS + 64 * (q + 1) + 16)), .string ⟨#[]⟩, .int .i64 (secZ s (pS + 64 * (q + 1))), .int .i64 (n4 s (pS + 64 * (q + 1) + 40)), .int .i64 (n4 s (pS + 64 * (q + 1) + 44)), .int .u64 (n8 s (pS + 64 * (q + 1) + 48)), .int .u64 (n8 s (pS + 64 * (q + 1) + 56)), .int .i64 (n4 s (pS + 64 * (q + 1))), .string dt] rfl)
            have HBS := hid (show Bw wr _ from ((Bw.refl wr).alloc (.cells zSec 95)).set (Nat.le_refl _) [.string nm, .int .i64 (n4 s (pS + 64 * (q + 1) + 4)), .int .u64 (n8 s (pS + 64 * (q + 1) + 8)), .int .u64 (n8 s (pS + 64 * (q + 1) + 16)), .string ⟨#[]⟩, .int .i64 (secZ s (pS + 64 * (q + 1))), .int .i64 (n4 s (pS + 64 * (q + 1) + 40)), .int .i64 (n4 s (pS + 64 * (q + 1) + 44)), .int .u64 (n8 s (pS + 64 * (q + 1) + 48)), .int .u64 (n8 s (pS + 64 * (q + 1) + 56)), .int .i64 (n4 s (pS + 64 * (q + 1))), .string dt])
            obtain ⟨xb, hxb⟩ : ∃ xb, wr.heap.size = xb := ⟨_, rfl⟩
            rw [hxb] at HX HXS HBS
            go_upto_region 13 with fail
            refine wp_region_list ?_
            refine wpList_plain rfl fun K hK => ?_
            go_simp
            refine hK _ _ ?_
            clear hK K
            refine wpList_load_mid rfl 95 (.tmp 52) rfl lb (q * 12) rfl [.string nm, .int .i64 (n4 s (pS + 64 * (q + 1) + 4)), .int .u64 (n8 s (pS + 64 * (q + 1) + 8)), .int .u64 (n8 s (pS + 64 * (q + 1) + 16)), .string ⟨#[]⟩, .int .i64 (secZ s (pS + 64 * (q + 1))), .int .i64 (n4 s (pS + 64 * (q + 1) + 40)), .int .i64 (n4 s (pS + 64 * (q + 1) + 44)), .int .u64 (n8 s (pS + 64 * (q + 1) + 48)), .int .u64 (n8 s (pS + 64 * (q + 1) + 56)), .int .i64 (n4 s (pS + 64 * (q + 1))), .string dt] _ HRG.out Try.underlying95 rfl inf_section ?_
            refine wpList_plain rfl fun K hK => ?_
            go_simp
            refine hK _ _ ?_
            clear hK K
            refine wpList_store_mid rfl 95 (.tmp 8) (.tmp 53) rfl xb 0 #[.string nm, .int .i64 (n4 s (pS + 64 * (q + 1) + 4)), .int .u64 (n8 s (pS + 64 * (q + 1) + 8)), .int .u64 (n8 s (pS + 64 * (q + 1) + 16)), .string ⟨#[]⟩, .int .i64 (secZ s (pS + 64 * (q + 1))), .int .i64 (n4 s (pS + 64 * (q + 1) + 40)), .int .i64 (n4 s (pS + 64 * (q + 1) + 44)), .int .u64 (n8 s (pS + 64 * (q + 1) + 48)), .int .u64 (n8 s (pS + 64 * (q + 1) + 56)), .int .i64 (n4 s (pS + 64 * (q + 1))), .string dt] rfl rfl (HX.out.there 12 (Nat.le_refl _)) inf_section (by simp only [List.all_toArray, List.all_cons, List.all_nil]; rfl) ?_
            change wpList _ _ _ _ _ ((wr.alloc (.cells zSec 95)).setCells xb 0 [.string nm, .int .i64 (n4 s (pS + 64 * (q + 1) + 4)), .int .u64 (n8 s (pS + 64 * (q + 1) + 8)), .int .u64 (n8 s (pS + 64 * (q + 1) + 16)), .string ⟨#[]⟩, .int .i64 (secZ s (pS + 64 * (q + 1))), .int .i64 (n4 s (pS + 64 * (q + 1) + 40)), .int .i64 (n4 s (pS + 64 * (q + 1) + 44)), .int .u64 (n8 s (pS + 64 * (q + 1) + 48)), .int .u64 (n8 s (pS + 64 * (q + 1) + 56)), .int .i64 (n4 s (pS + 64 * (q + 1))), .string dt])
            have HM3 := hid (HMO.out.bw' HBS.out)
            have HO3 := hid (HBS.out.own HRO.out)
            have HS3 := hid (HBS.out.own HSO.out)
            have HW3 := hid (HRW.out.bw HBS.out)
            have HXG := hid (show w.heap.size ≤ xb by rw [← hxb]; exact HMO.out.bw.size)
            have HLX := hid (show lb < xb by rw [← hxb]; exact HRW.out.lt)
            clear HX hxb HRG HBS HMO HRO HSO HRW
            generalize (wr.alloc (.cells zSec 95)).setCells xb 0 [.string nm, .int .i64 (n4 s (pS + 64 * (q + 1) + 4)), .int .u64 (n8 s (pS + 64 * (q + 1) + 8)), .int .u64 (n8 s (pS + 64 * (q + 1) + 16)), .string ⟨#[]⟩, .int .i64 (secZ s (pS + 64 * (q + 1))), .int .i64 (n4 s (pS + 64 * (q + 1) + 40)), .int .i64 (n4 s (pS + 64 * (q + 1) + 44)), .int .u64 (n8 s (pS + 64 * (q + 1) + 48)), .int .u64 (n8 s (pS + 64 * (q + 1) + 56)), .int .i64 (n4 s (pS + 64 * (q + 1))), .string dt] = w3 at *
            simp only [Act.put, List.setIfInBounds_toArray, List.set_cons_zero, List.set_cons_succ]
            have HX3 := hid (fun W (hW : Has W xb 95 #[.string nm, .int .i64 (n4 s (pS + 64 * (q + 1) + 4)), .int .u64 (n8 s (pS + 64 * (q + 1) + 8)), .int .u64 (n8 s (pS + 64 * (q + 1) + 16)), .string ⟨#[]⟩, .int .i64 (secZ s (pS + 64 * (q + 1))), .int .i64 (n4 s (pS + 64 * (q + 1) + 40)), .int .i64 (n4 s (pS + 64 * (q + 1) + 44)), .int .u64 (n8 s (pS + 64 * (q + 1) + 48)), .int .u64 (n8 s (pS + 64 * (q + 1) + 56)), .int .i64 (n4 s (pS + 64 * (q + 1))), .string dt]) => (show W.cell? ⟨xb, 0, none⟩ = some (.string nm) ∧ W.cell? ⟨xb, 11, none⟩ = some (.string dt) from ⟨hW.cell 0, hW.cell 11⟩))
            have HBD := hid (show Bw w3 w3.drew from (Bw.refl w3).drewN 1)
            have HXP := hid (fun W (hW : Has W xb 95 #[.string nm, .int .i64 (n4 s (pS + 64 * (q + 1) + 4)), .int .u64 (n8 s (pS + 64 * (q + 1) + 8)), .int .u64 (n8 s (pS + 64 * (q + 1) + 16)), .string ⟨#[]⟩, .int .i64 (secZ s (pS + 64 * (q + 1))), .int .i64 (n4 s (pS + 64 * (q + 1) + 40)), .int .i64 (n4 s (pS + 64 * (q + 1) + 44)), .int .u64 (n8 s (pS + 64 * (q + 1) + 48)), .int .u64 (n8 s (pS + 64 * (q + 1) + 56)), .int .i64 (n4 s (pS + 64 * (q + 1))), .string dt]) => (show ((W.setCell ⟨xb, 0, none⟩ (.string nm)).cell? ⟨xb, 0, none⟩ = some (.string nm) ∧ (W.setCell ⟨xb, 0, none⟩ (.string nm)).cell? ⟨xb, 11, none⟩ = some (.string dt)) ∧ (W.setCell ⟨xb, 0, none⟩ (.string nm)).cell? ⟨xb, 4, none⟩ = some (.string ⟨#[]⟩) ∧ (W.setCell ⟨xb, 0, none⟩ (.string nm)).frozen? ⟨xb, 4, none⟩ = false from ⟨⟨(hW.put 0 (.string nm)).cell 0, (hW.put 0 (.string nm)).cell 11⟩, (hW.put 0 (.string nm)).cell 4, (hW.put 0 (.string nm)).frozen 4⟩))
            have HXQ := hid (fun W (hW : Has W xb 95 #[.string nm, .int .i64 (n4 s (pS + 64 * (q + 1) + 4)), .int .u64 (n8 s (pS + 64 * (q + 1) + 8)), .int .u64 (n8 s (pS + 64 * (q + 1) + 16)), .string ⟨#[]⟩, .int .i64 (secZ s (pS + 64 * (q + 1))), .int .i64 (n4 s (pS + 64 * (q + 1) + 40)), .int .i64 (n4 s (pS + 64 * (q + 1) + 44)), .int .u64 (n8 s (pS + 64 * (q + 1) + 48)), .int .u64 (n8 s (pS + 64 * (q + 1) + 56)), .int .i64 (n4 s (pS + 64 * (q + 1))), .string dt]) => (show ((W.setCell ⟨xb, 0, none⟩ (.string nm)).setCell ⟨xb, 4, none⟩ (.string dt)).cell? ⟨xb, 0, none⟩ = some (.string nm) ∧ ((W.setCell ⟨xb, 0, none⟩ (.string nm)).setCell ⟨xb, 4, none⟩ (.string dt)).cell? ⟨xb, 11, none⟩ = some (.string dt) from ⟨((hW.put 0 (.string nm)).put 4 (.string dt)).cell 0, ((hW.put 0 (.string nm)).put 4 (.string dt)).cell 11⟩))
            go_upto_region 14 with fail
            go_region_held3 (fun W => W.cell? ⟨xb, 0, none⟩ = some (.string nm) ∧ W.cell? ⟨xb, 11, none⟩ = some (.string dt))
              (first | exact HX3.out _ (HBD.out.has HXS.out) | exact HX3.out _ (HB4.out.has HXS.out) | exact HX3.out _ (HB5.out.has HXS.out) | exact (HXP.out _ (HB5.out.has HXS.out)).1 | exact HXQ.out _ (HB5.out.has HXS.out))
              (first | (go_at_call 47; refine (HCD.out w4).mono ?_; rintro e w5 ⟨rfl, hb5⟩; have HB5 := hid (HB4.out.trans hb5); have z0 : w5.cell? ⟨xb, 0, none⟩ = some (.string nm) := (HB5.out.has HXS.out).cell 0; have zf := (HB5.out.has HXS.out).frozen 0; have z4 := (HXP.out _ (HB5.out.has HXS.out)).2.1; have zg := (HXP.out _ (HB5.out.has HXS.out)).2.2; clear hb5) | (go_at_call 47; refine (HCN.out _).mono ?_; rintro e w4 ⟨rfl, hb4⟩; have HB4 := hid (HBD.out.trans hb4); clear hb4))
            have HXS6 := hid (((HB5.out.has HXS.out).put 0 (.string nm)).put 4 (.string dt))
            simp only [List.setIfInBounds_toArray, List.set_cons_zero, List.set_cons_succ] at HXS6
            have HM6 := hid (show ModW w fb (fb + 1) hb mb s _ _ ((w5.setCell ⟨xb, 0, none⟩ (.string nm)).setCell ⟨xb, 4, none⟩ (.string dt)) from by
              have h5 := HM3.out.bw' HB5.out
              have hx5 := HB5.out.has HXS.out
              have e1 : fb ≠ xb := h5.fi.apart hx5 (by decide)
              have e2 : fb + 1 ≠ xb := h5.rs.apart hx5 (by decide)
              have e3 : hb ≠ xb := h5.hd.apart hx5 (by decide)
              have e4 : mb ≠ xb := h5.md.apart hx5 (by decide)
              exact ⟨Below.setCell (p := ⟨xb, 4, none⟩) (Below.setCell (p := ⟨xb, 0, none⟩) h5.bw HXG.out _) HXG.out _, (h5.fi.far (p := ⟨xb, 0, none⟩) e1 _).far (p := ⟨xb, 4, none⟩) e1 _, (h5.rs.far (p := ⟨xb, 0, none⟩) e2 _).far (p := ⟨xb, 4, none⟩) e2 _, (h5.hd.far (p := ⟨xb, 0, none⟩) e3 _).far (p := ⟨xb, 4, none⟩) e3 _, (h5.md.far (p := ⟨xb, 0, none⟩) e4 _).far (p := ⟨xb, 4, none⟩) e4 _, h5.lf, h5.lr, h5.lm, h5.nm⟩)
            have hrows : ∀ {z n : Nat} {t : TypeId} {v : Value} {xs : List Value}, w3.ownsRow w.heap.size t z v n xs → t ≠ 95 → ((w5.setCell ⟨xb, 0, none⟩ (.string nm)).setCell ⟨xb, 4, none⟩ (.string dt)).ownsRow w.heap.size t z v n xs := fun ho hne =>
              own_keep (HB5.out.own ho) fun b hb => by
                have hne2 : b ≠ xb := fun e => own_ne_has ho HXS.out hne (by rw [hb, e])
                exact (Below.heap_setCell _ ⟨xb, 4, none⟩ _ b hne2).trans (Below.heap_setCell _ ⟨xb, 0, none⟩ _ b hne2)
            have HO6 := hid (hrows HO3.out (by decide))
            have HS6 := hid (hrows HS3.out (by decide))
            have HW6 := hid (show RowZ 95 12 ((w5.setCell ⟨xb, 0, none⟩ (.string nm)).setCell ⟨xb, 4, none⟩ (.string dt)) lb (r + 1) _ from (HW3.out.bw HB5.out).keep (by
              have hne2 : lb ≠ xb := by have := HLX.out; omega
              exact (Below.heap_setCell _ ⟨xb, 4, none⟩ _ lb hne2).trans (Below.heap_setCell _ ⟨xb, 0, none⟩ _ lb hne2)))
            clear hrows z0 zf z4 zg HX3 HXP HXQ
            generalize World.setCell (World.setCell w5 _ _) _ _ = w6 at *
            have m5 : w6.cell? ⟨mb, 5, none⟩ = some (.slice bo q dp) := HM6.out.md.cell 5
            have HMA := hid (HM6.out.bw' ((Bw.refl w6).alloc (.cells #[.string nm, .int .i64 (n4 s (pS + 64 * (q + 1) + 4)), .int .u64 (n8 s (pS + 64 * (q + 1) + 8)), .int .u64 (n8 s (pS + 64 * (q + 1) + 16)), .string dt, .int .i64 (secZ s (pS + 64 * (q + 1))), .int .i64 (n4 s (pS + 64 * (q + 1) + 40)), .int .i64 (n4 s (pS + 64 * (q + 1) + 44)), .int .u64 (n8 s (pS + 64 * (q + 1) + 48)), .int .u64 (n8 s (pS + 64 * (q + 1) + 56))] 43)))
            have HOA := hid (((Bw.refl w6).alloc (.cells #[.string nm, .int .i64 (n4 s (pS + 64 * (q + 1) + 4)), .int .u64 (n8 s (pS + 64 * (q + 1) + 8)), .int .u64 (n8 s (pS + 64 * (q + 1) + 16)), .string dt, .int .i64 (secZ s (pS + 64 * (q + 1))), .int .i64 (n4 s (pS + 64 * (q + 1) + 40)), .int .i64 (n4 s (pS + 64 * (q + 1) + 44)), .int .u64 (n8 s (pS + 64 * (q + 1) + 48)), .int .u64 (n8 s (pS + 64 * (q + 1) + 56))] 43)).own HO6.out)
            have HSA := hid (((Bw.refl w6).alloc (.cells #[.string nm, .int .i64 (n4 s (pS + 64 * (q + 1) + 4)), .int .u64 (n8 s (pS + 64 * (q + 1) + 8)), .int .u64 (n8 s (pS + 64 * (q + 1) + 16)), .string dt, .int .i64 (secZ s (pS + 64 * (q + 1))), .int .i64 (n4 s (pS + 64 * (q + 1) + 40)), .int .i64 (n4 s (pS + 64 * (q + 1) + 44)), .int .u64 (n8 s (pS + 64 * (q + 1) + 48)), .int .u64 (n8 s (pS + 64 * (q + 1) + 56))] 43)).own HS6.out)
            have HWA := hid (HW6.out.bw ((Bw.refl w6).alloc (.cells #[.string nm, .int .i64 (n4 s (pS + 64 * (q + 1) + 4)), .int .u64 (n8 s (pS + 64 * (q + 1) + 8)), .int .u64 (n8 s (pS + 64 * (q + 1) + 16)), .string dt, .int .i64 (secZ s (pS + 64 * (q + 1))), .int .i64 (n4 s (pS + 64 * (q + 1) + 40)), .int .i64 (n4 s (pS + 64 * (q + 1) + 44)), .int .u64 (n8 s (pS + 64 * (q + 1) + 48)), .int .u64 (n8 s (pS + 64 * (q + 1) + 56))] 43)))
            have HXA := hid (Has.new w6 43 #[.string nm, .int .i64 (n4 s (pS + 64 * (q + 1) + 4)), .int .u64 (n8 s (pS + 64 * (q + 1) + 8)), .int .u64 (n8 s (pS + 64 * (q + 1) + 16)), .string dt, .int .i64 (secZ s (pS + 64 * (q + 1))), .int .i64 (n4 s (pS + 64 * (q + 1) + 40)), .int .i64 (n4 s (pS + 64 * (q + 1) + 44)), .int .u64 (n8 s (pS + 64 * (q + 1) + 48)), .int .u64 (n8 s (pS + 64 * (q + 1) + 56))])
            clear HM3 HO3 HS3 HW3 HXS HB4 HB5 HBD
            go_upto_region 15 with fail
            refine wp_region_list ?_
            refine wpList_plain rfl fun K hK => ?_
            go_simp
            refine hK _ _ ?_
            clear hK K
            refine wpList_plain rfl fun K hK => ?_
            go_simp
            refine hK _ _ ?_
            clear hK K
            refine wpList_plain rfl fun K hK => ?_
            go_simp
            refine hK _ _ ?_
            clear hK K
            refine wpList_load_mid rfl 43 (.tmp 67) rfl xb 0 rfl [.string nm, .int .i64 (n4 s (pS + 64 * (q + 1) + 4)), .int .u64 (n8 s (pS + 64 * (q + 1) + 8)), .int .u64 (n8 s (pS + 64 * (q + 1) + 16)), .string dt, .int .i64 (secZ s (pS + 64 * (q + 1))), .int .i64 (n4 s (pS + 64 * (q + 1) + 40)), .int .i64 (n4 s (pS + 64 * (q + 1) + 44)), .int .u64 (n8 s (pS + 64 * (q + 1) + 48)), .int .u64 (n8 s (pS + 64 * (q + 1) + 56))] _ (HXS6.out.head _ rfl) Try.underlying43 rfl inf_Section ?_
            refine wpList_plain rfl fun K hK => ?_
            go_simp
            refine hK _ _ ?_
            clear hK K
            refine wpList_app1 rfl (.tmp 66) (.tmp 69) 25 rfl w.heap.size 43 i0 (.agg #[.string ⟨#[]⟩, .int .i64 0, .int .u64 0, .int .u64 0, .string ⟨#[]⟩, .int .i64 0, .int .i64 0, .int .i64 0, .int .u64 0, .int .u64 0]) 10 96 Try.underlying25 hinf hz0 hz1 hz2 rfl (by decide) (.slice bo q dp) q _ rfl HOA.out w6.heap.size #[.string nm, .int .i64 (n4 s (pS + 64 * (q + 1) + 4)), .int .u64 (n8 s (pS + 64 * (q + 1) + 8)), .int .u64 (n8 s (pS + 64 * (q + 1) + 16)), .string dt, .int .i64 (secZ s (pS + 64 * (q + 1))), .int .i64 (n4 s (pS + 64 * (q + 1) + 40)), .int .i64 (n4 s (pS + 64 * (q + 1) + 44)), .int .u64 (n8 s (pS + 64 * (q + 1) + 48)), .int .u64 (n8 s (pS + 64 * (q + 1) + 56))] rfl HXA.out rfl (by intro u hu; simp at hu; rcases hu with rfl | rfl | rfl | rfl | rfl | rfl | rfl | rfl | rfl | rfl <;> rfl) (by unfold maxLen; omega) (by omega) HMA.out.bw.size ?_
            intro ao9 cp9 w7 hown hgrow
            have HO7 := hid hown
            have HG7 := hid hgrow
            have HM7 := hid (HMA.out.grown HOA.out hgrow (by decide) (by decide) (by decide))
            have z5 : w7.cell? ⟨mb, 5, none⟩ = some (.slice bo q dp) := HM7.out.md.cell 5
            have zf := HM7.out.md.frozen 5
            clear hown hgrow m5
            refine wpList_plain rfl fun K hK => ?_
            go_simp
            refine hK _ _ ?_
            clear hK K
            refine wpList_plain rfl fun K hK => ?_
            go_simp
            refine hK _ _ ?_
            clear hK K
            have HM8 := hid (HM7.out.put 5 (.slice ao9 (q + 1) cp9))
            simp only [List.setIfInBounds_toArray, List.set_cons_zero, List.set_cons_succ] at HM8
            have HO8 := hid (own_keep HO7.out fun b hb => Below.heap_setCell w7 ⟨mb, 5, none⟩ (.slice ao9 (q + 1) cp9) b (fun e => own_ne_has HO7.out HM7.out.md (by decide) (by rw [hb, e])))
            have HS7 := hid (own_keep HSA.out fun b hb => HG7.out.block b (own_lt HSA.out hb) (fun e => by
              obtain ⟨c1, h1⟩ := own_at HSA.out hb
              obtain ⟨c2, h2⟩ := own_at HOA.out e.symm
              rw [h1] at h2
              injection h2 with h2
              injection h2 with _ h2
              exact absurd h2 (by decide)))
            have HS8 := hid (own_keep HS7.out fun b hb => Below.heap_setCell w7 ⟨mb, 5, none⟩ (.slice ao9 (q + 1) cp9) b (fun e => own_ne_has HS7.out HM7.out.md (by decide) (by rw [hb, e])))
            have HW7 := hid (HWA.out.keep (HG7.out.block lb HWA.out.lt (fun e => by
              obtain ⟨cs, ha, _⟩ := HWA.out.has
              exact own_ne_has HOA.out ha (by decide) e.symm)))
            have HW8 := hid (HW7.out.keep (Below.heap_setCell w7 ⟨mb, 5, none⟩ (.slice ao9 (q + 1) cp9) lb (fun e => (HM7.out.row HW7.out (by decide) (by decide) (by decide)).2.2.2 e.symm)))
            generalize World.setCell w7 _ _ = w8 at *
            clear z5 zf
            go_wp2
            exact ⟨⟨q + 1, .slice ao9 (q + 1) cp9, HLT.out, by first | rw [HV.out] | rfl, HM8.out, by
              rw [List.range_succ, List.map_append, secCells_app, List.map_cons, List.map_nil, HNM.out, HDT.out]
              exact HO8.out, HS8.out, HW8.out⟩, by have h1 := HLT.out; first | rw [HV.out] | skip; simp only [intOf]; omega⟩
          · obtain rfl : q = r := by omega
            have c0 : ¬ (q : Int) < q := by omega
            have HPN := hid (HMO.out.rs.set [.int .i64 ty, .int .i64 ma, .int .u64 en, .int .i64 fl, .slice ao j cp, .slice bo q dp] rfl)
            have HBN := hid (HMO.out.bw.set HMO.out.lr [.int .i64 ty, .int .i64 ma, .int .u64 en, .int .i64 fl, .slice ao j cp, .slice bo q dp])
            have hrows : ∀ {z n : Nat} {t : TypeId} {v : Value} {xs : List Value}, wr.ownsRow w.heap.size t z v n xs → t ≠ 27 → (wr.setCells (fb + 1) 0 [.int .i64 ty, .int .i64 ma, .int .u64 en, .int .i64 fl, .slice ao j cp, .slice bo q dp]).ownsRow w.heap.size t z v n xs := fun ho hne =>
              own_keep ho fun b hb => by
                rw [setCells_put]
                exact putL_heap (fun e => own_ne_has ho HMO.out.rs hne (by rw [hb, e]))
            have HO9 := hid (hrows HRO.out (by decide))
            have HS9 := hid (hrows HSO.out (by decide))
            have HE1 := hid (show (List.range j).map (fun i => segC s (pP + 56 * i)) = segL s from by unfold segL segAt; rw [HPP.out, HNN.out])
            have HE2 := hid (show (List.range q).map (fun i => secC s (pS + 64 * (i + 1)) (namT (lastD s) (n4 s (pS + 64 * (i + 1)))) (secD s (pS + 64 * (i + 1)))) = secL s from by unfold secL secAt namP secAt; rw [HPS.out, HNK.out, HRK.out]; rfl)
            clear hrows HRW
            rw [HE1.out] at HS9
            rw [HE2.out] at HO9
            go_upto_region 17 with fail
            refine wp_region_list ?_
            refine wpList_load_mid rfl 27 (.tmp 4) rfl (mb) 0 rfl [.int .i64 ty, .int .i64 ma, .int .u64 en, .int .i64 fl, .slice ao j cp, .slice bo q dp] _ HMO.out.md.range Try.underlying27 rfl inf_Elf ?_
            simp only [Act.put, List.setIfInBounds_toArray, List.set_cons_zero, List.set_cons_succ]
            refine wpList_store_mid rfl 27 (.tmp 2) (.tmp 73) rfl (fb + 1) 0 #[.int .i64 ty, .int .i64 ma, .int .u64 en, .int .i64 fl, .slice ao j cp, .slice bo q dp] rfl rfl (HMO.out.rs.there 6 (Nat.le_refl _)) inf_Elf (by simp only [List.all_toArray, List.all_cons, List.all_nil]; rfl) ?_
            generalize World.setCells wr _ _ _ = wz at *
            go_wp2_with fail
            have p0 := HPN.out.cell 0
            have p1 := HPN.out.cell 1
            have p2 := HPN.out.cell 2
            have p3 := HPN.out.cell 3
            have p4 := HPN.out.cell 4
            have p5 := HPN.out.cell 5
            simp only [List.getElem?_toArray, List.getElem?_cons_zero, List.getElem?_cons_succ] at p0 p1 p2 p3 p4 p5
            refine bodyPost_ret (by simp [results, Try.results21, go_sem, p0, p1, p2, p3, p4, p5]; try rfl) rfl ?_
            have hq2 : k - 2 = q := by have := HRK.out; omega
            rw [hq2] at HGOOD
            exact HGOOD.out _ _ HBN.out HOK.out HNCU.out HFZ.out HZ.out HSZ.out HNOK.out ⟨ao, cp, bo, dp, rfl, HS9.out, HO9.out⟩
end Go.Proofs.Ytciaebhkemdilaa
