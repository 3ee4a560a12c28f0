/- The document's Split (contract of the function). -/
import Derived.Test.YtgkgimfdbkpbdaaDoorWavG
import Derived.Test.YtgkgimfdbkpbdaaDoorWavT
namespace Go.Proofs.YtgkgimfdbkpbdaaDoor
open Go.RowKit
set_option linter.unusedVariables false
set_option linter.unusedSimpArgs false
def lenV : Value → Nat
  | .string t => t.size
  | _ => 0
set_option maxRecDepth 100000 in
set_option maxHeartbeats 8000000 in
theorem rsplit_any (s : ByteArray) (hs : s.size ≤ 100000000) (w : World) :
    Calls Tryd.prog 11 #[.string s] w (SplitQ s w) := by
  obtain ⟨i0, hinf, hz0, hz1, hz2⟩ := info_parts chkInfo
  have hl : s.size ≤ lim := by unfold lim; omega
  by_cases h12 : s.size < 12
  · have HB := hid (show splitP s = (⟨#[]⟩, [], 2) from by
      have h : headE s = 2 := if_pos h12
      rw [splitP_head (by rw [h]; decide), h])
    have c0 : (s.size : Int) < 12 := by omega
    go_enter Tryd.func11, Tryd.ntmps11
    go_wp2
    go_returns
    exact SplitQ.bad HB.out rfl (Bw.refl w)
  have c0 : ¬ (s.size : Int) < 12 := by omega
  have HTY := hid (fun W => rType_any (s.extract 8 12) (by simp; omega) W)
  have hnl := num4_lt s 4
  have HNU := hid (fun W => rnumber4_any s hl 4 (by omega) W)
  have HHE := hid (show headE s = if s.extract 0 4 ≠ riffT ∨ typB (s.extract 8 12) = false then 3 else if s.size - 8 < num4 s 4 then 2 else if num4 s 4 < s.size - 8 then 3 else 0 from if_neg h12)
  have HSH := hid (fun E (h : headE s = E) (h0 : E ≠ 0) => (show splitP s = (⟨#[]⟩, [], E) from by rw [splitP_head (by rw [h]; exact h0), h]))
  by_cases hrf : s.extract 0 4 = riffT
  · have hr0 : s.extract 0 4 = ⟨#[82, 73, 70, 70]⟩ := hrf
    have HRF := hid hrf
    clear hrf
    cases htb : typB (s.extract 8 12) with
    | false =>
      rw [htb] at HTY
      have HB := hid (HSH.out 3 (by rw [HHE.out, if_pos (.inr htb)]) (by decide))
      clear HSH HHE htb
      go_enter Tryd.func11, Tryd.ntmps11
      go_wp2_with fail
      refine (HTY.out _).mono ?_
      rintro e w1 ⟨rfl, hb1⟩
      have HB1 := hid hb1
      clear hb1
      go_wp2
      go_returns
      exact SplitQ.bad HB.out rfl HB1.out
    | true =>
      rw [htb] at HTY
      obtain ⟨n, hn⟩ : ∃ n, num4 s 4 = n := ⟨_, rfl⟩
      rw [hn] at HNU HHE hnl
      by_cases hgt : s.size - 8 < n
      · have c1 : (s.size : Int) - 8 < n := by omega
        have HB := hid (HSH.out 2 (by rw [HHE.out, if_neg (by rw [htb]; simp [HRF.out]), if_pos hgt]) (by decide))
        clear HSH HHE htb hgt hn
        go_enter Tryd.func11, Tryd.ntmps11
        go_wp2_with fail
        refine (HTY.out _).mono ?_
        rintro e w1 ⟨rfl, hb1⟩
        have HB1 := hid hb1
        clear hb1
        go_wp2_with fail
        refine (HNU.out _).mono ?_
        rintro e w2 ⟨rfl, rfl⟩
        go_wp2
        go_returns
        exact SplitQ.bad HB.out rfl HB1.out
      have c1 : ¬ (s.size : Int) - 8 < n := by omega
      by_cases hlt : n < s.size - 8
      · have c2 : (n : Int) < (s.size : Int) - 8 := by omega
        have HB := hid (HSH.out 3 (by rw [HHE.out, if_neg (by rw [htb]; simp [HRF.out]), if_neg hgt, if_pos hlt]) (by decide))
        clear HSH HHE htb hgt hlt hn
        go_enter Tryd.func11, Tryd.ntmps11
        go_wp2_with fail
        refine (HTY.out _).mono ?_
        rintro e w1 ⟨rfl, hb1⟩
        have HB1 := hid hb1
        clear hb1
        go_wp2_with fail
        refine (HNU.out _).mono ?_
        rintro e w2 ⟨rfl, rfl⟩
        go_wp2
        go_returns
        exact SplitQ.bad HB.out rfl HB1.out
      have c2 : ¬ (n : Int) < (s.size : Int) - 8 := by omega
      have hh : headE s = 0 := by rw [HHE.out, if_neg (by rw [htb]; simp [HRF.out]), if_neg hgt, if_neg hlt]
      have HFM := hid (show s.extract 8 12 = s.extract 8 12 from rfl)
      obtain ⟨⟨rE, rL⟩, hR⟩ : ∃ r, splGo s s.size 12 [] = r := ⟨_, rfl⟩
      have HR := hid hR
      have HOK := hid (fun (h : rE = 0) => (show splitP s = (s.extract 8 12, rL, 0) from splitP_ok hh (by rw [hR, h])))
      have HBAD := hid (fun (h : rE ≠ 0) => splitP_bad hh hR h)
      have h12' : 12 ≤ s.size := by omega
      clear HSH HHE htb hgt hlt hn hh hR
      go_enter Tryd.func11, Tryd.ntmps11
      go_wp2_with fail
      refine (HTY.out _).mono ?_
      rintro e w1 ⟨rfl, hb1⟩
      have HB1 := hid hb1
      clear hb1
      go_wp2_with fail
      refine (HNU.out _).mono ?_
      rintro e w2 ⟨rfl, rfl⟩
      clear HNU HTY
      go_wp2
      clear c1 c2 hnl
      go_loopw [0, 7] (fun vs vo wr => ∃ (p f : Nat) (acc : List ChkR), vs = .string (s.extract p s.size) ∧ 12 ≤ p ∧ p ≤ s.size ∧ s.size - p ≤ f ∧ acc.length * 8 ≤ p ∧ Hid (splGo s f p acc = (rE, rL)) ∧ wr.ownsRow w.heap.size 42 2 vo acc.length (chkCells acc) ∧ Hid (∀ c ∈ acc, c.Ok) ∧ Bw w wr) (fun vs _ _ => lenV vs)
      case atStart => exact ⟨12, s.size, [], rfl, Nat.le_refl _, h12', by omega, by simp, HR, World.ownsRow_nil _ _ _ _, hid (fun c hc => by cases hc), HB1.out⟩
      case round =>
        rename World => wr
        obtain ⟨p, f, acc, rfl, hp12, hps, hf, hal, HG, hrow, HOKs, hw⟩ := hrel
        have HW := hid hw
        obtain ⟨ao, cp, rfl⟩ := own_slice hrow
        have HROW := hid hrow
        have htz := rest_size s p
        have HTX := hid (fun a b (h : p + b ≤ s.size) => ext_ext s p a b h)
        have HTR := hid (fun a => ext_rest s p a hps)
        have HTN := hid (fun a (h : p + a + 4 ≤ s.size) => (show num4 (s.extract p s.size) a = num4 s (p + a) from num_rest s p a 4 false h))
        have HTB := hid (fun i (h : p + i < s.size) => bt_rest s p i h)
        obtain ⟨t, ht⟩ : ∃ t, s.extract p s.size = t := ⟨_, rfl⟩
        rw [ht] at htz HTX HTR HTN HTB ⊢
        clear ht hw hrow
        by_cases hz : 0 < t.size
        · have d0 : (0 : Int) < t.size := by omega
          have hlt : p < s.size := by omega
          have HBD0 := hid (fun E (h : chkE s p = E) (h0 : E ≠ 0) => (show splitP s = (⟨#[]⟩, [], E) from by
            have hrr := (splGo_bad (acc := acc) hlt hf (by rw [h]; exact h0)).symm.trans HG.out
            have hre : chkE s p = rE := congrArg Prod.fst hrr
            rw [← h, hre]
            exact HBAD.out (by rw [← hre, h]; exact h0)))
          by_cases h8 : t.size < 8
          · have d1 : (t.size : Int) < 8 := by omega
            have HB := hid (HBD0.out 2 (if_pos (by omega)) (by decide))
            clear HBD0
            go_wp2
            go_returns
            exact SplitQ.bad HB.out rfl HW.out
          have d1 : ¬ (t.size : Int) < 8 := by omega
          have HTY := hid (fun W => rType_any (t.extract 0 4) (by simp; omega) W)
          have hT : t.extract 0 4 = s.extract p (p + 4) := by rw [HTX.out 0 4 (by omega)]; rfl
          have HT := hid hT
          have HCE := hid (show chkE s p = if typB (s.extract p (p + 4)) = false then 3 else if s.size < p + 8 + pad (num4 s (p + 4)) then 2 else if num4 s (p + 4) % 2 = 1 ∧ bt s (p + 8 + num4 s (p + 4)) ≠ 0 then 3 else 0 from if_neg (by omega))
          rw [← hT] at HCE
          clear hT
          have HA3 := hid (HW.out.alloc (.cells #[.string (t.extract 0 4), .string ⟨#[]⟩] 42))
          have HX3 := hid (Has.new wr 42 #[.string (t.extract 0 4), .string ⟨#[]⟩])
          have HR3 := hid (((Bw.refl wr).alloc (.cells #[.string (t.extract 0 4), .string ⟨#[]⟩] 42)).own HROW.out)
          obtain ⟨gx, hgx⟩ : ∃ gx, wr.heap.size = gx := ⟨_, rfl⟩
          have HGX := hid (show w.heap.size ≤ gx from by rw [← hgx]; exact HW.out.size)
          have HNB := hid (fun hb => Nat.lt_irrefl gx (by have := own_lt HROW.out (b := gx) hb; omega))
          rw [hgx] at HX3
          go_upto_region 17 with fail
          generalize wr.alloc (.cells #[.string (t.extract 0 4), .string ⟨#[]⟩] 42) = w3 at *
          clear hgx
          obtain ⟨T, hTT⟩ : ∃ T, t.extract 0 4 = T := ⟨_, rfl⟩
          rw [hTT] at HTY HT HCE HX3
          have x0 := HX3.out.cell 0
          have x1 := HX3.out.cell 1
          simp at x0 x1
          clear hTT
          cases htb : typB T with
          | false =>
            rw [htb] at HTY HCE
            have HB := hid (HBD0.out 3 HCE.out (by decide))
            clear HBD0 HCE
            go_wp2_with fail
            refine (HTY.out _).mono ?_
            rintro e w4 ⟨rfl, hb4⟩
            have HB4 := hid (HA3.out.trans hb4)
            clear hb4
            go_wp2
            go_returns
            exact SplitQ.bad HB.out rfl HB4.out
          | true =>
            rw [htb] at HTY HCE
            rw [if_neg (by decide)] at HCE
            have HN4 := hid (fun W => rnumber4_any t (by unfold lim at *; omega) 4 (by omega) W)
            have hk0 := HTN.out 4 (by omega)
            rw [hk0] at HN4
            have hkl := num4_lt s (p + 4)
            have HCN := hid (show chkN s p = p + 8 + pad (num4 s (p + 4)) from rfl)
            have HCC := hid (show chkC s p = ⟨T, s.extract (p + 8) (p + 8 + num4 s (p + 4))⟩ from by rw [HT.out]; rfl)
            obtain ⟨k, hk⟩ : ∃ k, num4 s (p + 4) = k := ⟨_, rfl⟩
            rw [hk] at HN4 hkl HCE HCN HCC
            clear hk hk0 HTN HT
            unfold pad at HCE HCN
            by_cases ho : k % 2 = 1
            · have o1 : (k : Int) % 2 = 1 := by omega
              by_cases hbig : t.size < 8 + (k + 1)
              · have b1 : (t.size : Int) - 8 < (k : Int) + 1 := by omega
                have HB := hid (HBD0.out 2 (by rw [HCE.out, ho, if_pos (by omega)]) (by decide))
                clear hbig
                clear HBD0 HCE
                go_wp2_with fail
                refine (HTY.out _).mono ?_
                rintro e w4 ⟨rfl, hb4⟩
                have HB4 := hid (HA3.out.trans hb4)
                clear hb4
                go_wp2_with fail
                refine (HN4.out _).mono ?_
                rintro e w5 ⟨rfl, rfl⟩
                go_wp2
                go_returns
                exact SplitQ.bad HB.out rfl HB4.out
              have b1 : ¬ (t.size : Int) - 8 < (k : Int) + 1 := by omega
              rw [ho, if_neg (by omega)] at HCE
              rw [ho] at HCN
              have i1 : (8 : Int) + k < t.size := by omega
              have i2 : 8 + k < t.size := by omega
              have hbt := HTB.out (8 + k) (by omega)
              rw [bt_eq t (8 + k) i2, show p + (8 + k) = p + 8 + k by omega] at hbt
              obtain ⟨D, hD⟩ : ∃ D, t.extract 8 (8 + k) = D := ⟨_, rfl⟩
              have hD2 := HTX.out 8 (8 + k) (by omega)
              rw [hD, show p + (8 + k) = p + 8 + k by omega] at hD2
              rw [← hD2] at HCC
              have HDD := hid hD
              clear hD hD2
              by_cases hz0 : (t[8 + k]'i2).toNat = 0
              · have hE0 : chkE s p = 0 := by rw [HCE.out]; exact if_neg (fun h => h.2 (by rw [← hbt]; exact hz0))
                have i3 : 8 + k ≤ t.size := by omega
                have i4 : (8 : Int) + k ≤ t.size := by omega
                have i5 : 8 + (k + 1) ≤ t.size := by omega
                have i6 : (8 : Int) + ((k : Int) + 1) ≤ t.size := by omega
                clear hbt
                obtain ⟨g2, hg2, hnx⟩ := splGo_next (acc := acc) hlt hf hE0
                rw [HCC.out, HCN.out] at hnx
                rw [HCN.out] at hg2
                have HG2 := hid (hnx.symm.trans HG.out)
                have HXO := hid (show ChkR.Ok ⟨T, D⟩ from by rw [← HCC.out]; exact chkC_ok hs p)
                clear hnx hE0 HBD0 HCE
                go_wp2_with fail
                refine (HTY.out _).mono ?_
                rintro e w4 ⟨rfl, hb4⟩
                have HB4 := hid (HA3.out.trans hb4)
                have HX4 := hid (hb4.has HX3.out)
                have HR4 := hid (hb4.own HR3.out)
                clear hb4 x0 x1
                go_wp2_with fail
                refine (HN4.out _).mono ?_
                rintro e w5 ⟨rfl, rfl⟩
                have x0 := HX4.out.cell 0
                have x1 := HX4.out.cell 1
                simp at x0 x1
                have fz := HX4.out.frozen 1
                go_upto_region 26 with fail
                clear hz0
                rw [HDD.out]
                have HX6 := hid (show Has (w4.setCell ⟨gx, 1, none⟩ (.string D)) gx 42 #[.string T, .string D] from HX4.out.put 1 _)
                have HB6 := hid (show Bw w (w4.setCell ⟨gx, 1, none⟩ (.string D)) from Below.setCell (p := ⟨gx, 1, none⟩) HB4.out HGX.out (.string D))
                have HR6 := hid (own_far HR4.out (p := ⟨gx, 1, none⟩) HNB.out (.string D))
                generalize w4.setCell ⟨gx, 1, none⟩ (.string D) = w6 at *
                clear x0 x1 fz HX4 HR4 HB4
                have x0 := HX6.out.cell 0
                have x1 := HX6.out.cell 1
                simp at x0 x1
                have hs6 := HB6.out.size
                go_wp2_with (at_builtin; refine wpList_append_own_at _ rfl _ _ 23 rfl w.heap.size 42 i0 (.agg #[.string ⟨#[]⟩, .string ⟨#[]⟩]) 2 32 Tryd.underlying23 hinf hz0 hz1 hz2 rfl (by decide) _ _ _ rfl (((Bw.refl w6).alloc (.cells #[.string T, .string D] 42)).own HR6.out) ⟨w6.heap.size, 0, none⟩ 1 1 [.string T, .string D] rfl rfl (own_two _ _ _ _) (by intro u hu; simp at hu; rcases hu with rfl | rfl <;> rfl) (by unfold maxLen; omega) (by omega) (by simp; omega) ?_; intro v7 w7 hown7 hgrow7 _ _; have HO7 := hid hown7; have HG7 := hid hgrow7; clear hown7 hgrow7)
                have HR6a := hid (((Bw.refl w6).alloc (.cells #[.string T, .string D] 42)).own HR6.out)
                have HB7 := hid (show Bw w w7 from Below.trans (HB6.out.alloc _) (own_grownJ HR6a.out HG7.out (by simp; omega)))
                refine ⟨⟨p + 8 + (k + 1), g2, acc ++ [⟨T, D⟩], by rw [← htz, HTR.out]; congr 2; omega, by omega, by omega, hg2, by simp; omega, HG2, ?_, hid (fun c hc => ?_), HB7.out⟩, by simp [lenV]; omega⟩
                · rw [chkCells_snoc, List.length_append]
                  exact HO7.out
                · rcases List.mem_append.1 hc with h | h
                  · exact HOKs.out c h
                  · rw [List.mem_singleton] at h
                    rw [h]; exact HXO.out
              · have HB := hid (HBD0.out 3 (by rw [HCE.out]; exact if_pos ⟨rfl, by rw [← hbt]; exact hz0⟩) (by decide))
                clear hbt
                clear HBD0 HCE
                go_wp2_with fail
                refine (HTY.out _).mono ?_
                rintro e w4 ⟨rfl, hb4⟩
                have HB4 := hid (HA3.out.trans hb4)
                clear hb4
                go_wp2_with fail
                refine (HN4.out _).mono ?_
                rintro e w5 ⟨rfl, rfl⟩
                go_wp2
                go_returns
                exact SplitQ.bad HB.out rfl HB4.out
            · have ho0 : k % 2 = 0 := by omega
              have o1 : (k : Int) % 2 = 0 := by omega
              by_cases hbig : t.size < 8 + k
              · have b1 : (t.size : Int) - 8 < (k : Int) := by omega
                have HB := hid (HBD0.out 2 (by rw [HCE.out, ho0, if_pos (by omega)]) (by decide))
                clear hbig
                clear HBD0 HCE
                go_wp2_with fail
                refine (HTY.out _).mono ?_
                rintro e w4 ⟨rfl, hb4⟩
                have HB4 := hid (HA3.out.trans hb4)
                clear hb4
                go_wp2_with fail
                refine (HN4.out _).mono ?_
                rintro e w5 ⟨rfl, rfl⟩
                go_wp2
                go_returns
                exact SplitQ.bad HB.out rfl HB4.out
              have b1 : ¬ (t.size : Int) - 8 < (k : Int) := by omega
              rw [ho0, if_neg (by omega), if_neg (by omega)] at HCE
              rw [ho0] at HCN
              obtain ⟨D, hD⟩ : ∃ D, t.extract 8 (8 + k) = D := ⟨_, rfl⟩
              have hD2 := HTX.out 8 (8 + k) (by omega)
              rw [hD, show p + (8 + k) = p + 8 + k by omega] at hD2
              rw [← hD2] at HCC
              have HDD := hid hD
              have i3 : 8 + k ≤ t.size := by omega
              have i4 : (8 : Int) + k ≤ t.size := by omega
              have hE0 : chkE s p = 0 := HCE.out
              clear hD hD2
              obtain ⟨g2, hg2, hnx⟩ := splGo_next (acc := acc) hlt hf hE0
              rw [HCC.out, HCN.out] at hnx
              rw [HCN.out] at hg2
              have HG2 := hid (hnx.symm.trans HG.out)
              have HXO := hid (show ChkR.Ok ⟨T, D⟩ from by rw [← HCC.out]; exact chkC_ok hs p)
              clear hnx hE0 HBD0 HCE
              go_wp2_with fail
              refine (HTY.out _).mono ?_
              rintro e w4 ⟨rfl, hb4⟩
              have HB4 := hid (HA3.out.trans hb4)
              have HX4 := hid (hb4.has HX3.out)
              have HR4 := hid (hb4.own HR3.out)
              clear hb4 x0 x1
              go_wp2_with fail
              refine (HN4.out _).mono ?_
              rintro e w5 ⟨rfl, rfl⟩
              have x0 := HX4.out.cell 0
              have x1 := HX4.out.cell 1
              simp at x0 x1
              have fz := HX4.out.frozen 1
              go_upto_region 26 with fail
              rw [HDD.out]
              have HX6 := hid (show Has (w4.setCell ⟨gx, 1, none⟩ (.string D)) gx 42 #[.string T, .string D] from HX4.out.put 1 _)
              have HB6 := hid (show Bw w (w4.setCell ⟨gx, 1, none⟩ (.string D)) from Below.setCell (p := ⟨gx, 1, none⟩) HB4.out HGX.out (.string D))
              have HR6 := hid (own_far HR4.out (p := ⟨gx, 1, none⟩) HNB.out (.string D))
              generalize w4.setCell ⟨gx, 1, none⟩ (.string D) = w6 at *
              clear x0 x1 fz HX4 HR4 HB4
              have x0 := HX6.out.cell 0
              have x1 := HX6.out.cell 1
              simp at x0 x1
              have hs6 := HB6.out.size
              go_wp2_with (at_builtin; refine wpList_append_own_at _ rfl _ _ 23 rfl w.heap.size 42 i0 (.agg #[.string ⟨#[]⟩, .string ⟨#[]⟩]) 2 32 Tryd.underlying23 hinf hz0 hz1 hz2 rfl (by decide) _ _ _ rfl (((Bw.refl w6).alloc (.cells #[.string T, .string D] 42)).own HR6.out) ⟨w6.heap.size, 0, none⟩ 1 1 [.string T, .string D] rfl rfl (own_two _ _ _ _) (by intro u hu; simp at hu; rcases hu with rfl | rfl <;> rfl) (by unfold maxLen; omega) (by omega) (by simp; omega) ?_; intro v7 w7 hown7 hgrow7 _ _; have HO7 := hid hown7; have HG7 := hid hgrow7; clear hown7 hgrow7)
              have HR6a := hid (((Bw.refl w6).alloc (.cells #[.string T, .string D] 42)).own HR6.out)
              have HB7 := hid (show Bw w w7 from Below.trans (HB6.out.alloc _) (own_grownJ HR6a.out HG7.out (by simp; omega)))
              refine ⟨⟨p + 8 + (k), g2, acc ++ [⟨T, D⟩], by rw [← htz, HTR.out]; congr 2; omega, by omega, by omega, hg2, by simp; omega, HG2, ?_, hid (fun c hc => ?_), HB7.out⟩, by simp [lenV]; omega⟩
              · rw [chkCells_snoc, List.length_append]
                exact HO7.out
              · rcases List.mem_append.1 hc with h | h
                · exact HOKs.out c h
                · rw [List.mem_singleton] at h
                  rw [h]; exact HXO.out
        · have hpe : p = s.size := by omega
          have d0 : ¬ (0 : Int) < t.size := by omega
          have hrr := (splGo_end (f := f) (acc := acc) (s := s) (p := p) (by omega)).symm.trans HG.out
          have hre : 0 = rE := congrArg Prod.fst hrr
          have hrl : acc = rL := congrArg Prod.snd hrr
          have HOK2 := hid (HOK.out hre.symm)
          clear hrr hre
          subst hrl
          have HC9 := hid (ChkAt.of_own HROW.out HOKs.out)
          go_wp2
          go_returns
          exact SplitQ.good HOK2.out rfl rfl HW.out HC9.out
  · have hr1 := str_nl hrf
    have HB := hid (HSH.out 3 (by rw [HHE.out, if_pos (.inl hrf)]) (by decide))
    have hrf2 : ¬ s.extract 0 4 = ⟨#[82, 73, 70, 70]⟩ := hrf
    clear HSH HHE hrf
    go_enter Tryd.func11, Tryd.ntmps11
    go_wp2
    go_returns
    exact SplitQ.bad HB.out rfl (Bw.refl w)
end Go.Proofs.YtgkgimfdbkpbdaaDoor
