/- The chunk at a place (contract of the function). -/
import Derived.Test.YtgkgimfdbkpbdaaDoorWavE
import Derived.IntWalk
import Derived.Deep.RegionWith
namespace Go.Proofs.YtgkgimfdbkpbdaaDoor
open Go.RowKit
set_option linter.unusedVariables false
set_option linter.unusedSimpArgs false
theorem has_two {w : World} {g : Nat} {t : TypeId} {a b : Value} (h : Has w g t #[a, b]) (x y : Value) : ((w.setCell ⟨g, 0, none⟩ x).setCell ⟨g, 1, none⟩ y).cell? ⟨g, 0, none⟩ = some x ∧ ((w.setCell ⟨g, 0, none⟩ x).setCell ⟨g, 1, none⟩ y).cell? ⟨g, 1, none⟩ = some y := by
  have h2 := (h.put 0 x).put 1 y
  exact ⟨(h2.cell 0).trans (by simp), (h2.cell 1).trans (by simp)⟩
theorem bw_two {w w' : World} {g : Nat} (h : Bw w w') (hg : w.heap.size ≤ g) (x y : Value) : Bw w ((w'.setCell ⟨g, 0, none⟩ x).setCell ⟨g, 1, none⟩ y) :=
  Below.setCell (p := ⟨g, 1, none⟩) (Below.setCell (p := ⟨g, 0, none⟩) h hg x) hg y
theorem ret_chk {T D : ByteArray} {a b : Int} (h : a = b) : Ending.returned (.tuple #[.agg #[.string T, .string D], .int .i64 a, .int .i64 0]) = .returned (.tuple #[.agg #[.string T, .string D], .int .i64 b, .int .i64 0]) := by rw [h]
/-- What chunkAt answers. -/
def chkO (s : ByteArray) (p : Nat) : ByteArray × ByteArray × Nat × Int := if chkE s p = 0 then ((chkC s p).typ, (chkC s p).dat, chkN s p, 0) else (⟨#[]⟩, ⟨#[]⟩, 0, chkE s p)
theorem chkO_bad {s : ByteArray} {p : Nat} {E : Int} (h : chkE s p = E) (h0 : E ≠ 0) : (chkO s p).1 = ⟨#[]⟩ ∧ (chkO s p).2.1 = ⟨#[]⟩ ∧ (chkO s p).2.2.1 = 0 ∧ (chkO s p).2.2.2 = E := by
  unfold chkO
  rw [if_neg (by rw [h]; exact h0), h]
  exact ⟨rfl, rfl, rfl, rfl⟩
set_option maxRecDepth 100000 in
set_option maxHeartbeats 8000000 in
theorem chunkAt_any (s : ByteArray) (hs : s.size ≤ 100000000) (p : Nat) (hp : p ≤ s.size) (w : World) :
    Calls Tryd.prog 22 #[.agg #[.int .i64 0, .string s], .int .i64 p] w fun e w' => e = .returned (.tuple #[.agg #[.string (chkO s p).1, .string (chkO s p).2.1], .int .i64 ((chkO s p).2.2.1 : Nat), .int .i64 (chkO s p).2.2.2]) ∧ Bw w w' := by
  have hl : s.size ≤ lim := by unfold lim; omega
  have HN2 := hid ((Has.new w 45 #[.int .i64 0, .string s]).alloc (.cells #[.string ⟨#[]⟩, .string ⟨#[]⟩] 42))
  have HN4 := hid (Has.new (w.alloc (.cells #[.int .i64 0, .string s] 45)) 42 #[.string ⟨#[]⟩, .string ⟨#[]⟩])
  have HB := hid (((Bw.refl w).alloc (.cells #[.int .i64 0, .string s] 45)).alloc (.cells #[.string ⟨#[]⟩, .string ⟨#[]⟩] 42))
  simp only [World.size_alloc] at HN4
  obtain ⟨nb, hnb⟩ : ∃ nb, w.heap.size = nb := ⟨_, rfl⟩
  have HNB := hid hnb
  have HOB := hid (fun E (h : chkE s p = E) (h0 : E ≠ 0) => chkO_bad h h0)
  have HOK := hid (fun (h : chkE s p = 0) => (show chkO s p = ((chkC s p).typ, (chkC s p).dat, chkN s p, 0) from if_pos h))
  obtain ⟨⟨oT, oD, oN, oE⟩, hO⟩ : ∃ o, chkO s p = o := ⟨_, rfl⟩
  rw [hO] at HOB HOK ⊢
  clear hO
  simp only at HOB ⊢
  by_cases h8 : s.size < p + 8
  · have HV := hid (HOB.out 2 (if_pos h8) (by decide))
    have HS := hid (fun W => sub_out 0 (by omega) s hl p 8 (by omega) W)
    clear HOB HOK
    go_enter Tryd.func22, Tryd.ntmps22
    go_wp2_with fail
    rw [hnb] at HN2 HN4
    generalize (w.alloc (.cells #[.int .i64 0, .string s] 45)).alloc (.cells #[.string ⟨#[]⟩, .string ⟨#[]⟩] 42) = W1 at *
    refine (HS.out _).mono ?_
    rintro e w2 ⟨rfl, hb2⟩
    have HC3 := hid ((hb2.has HN4.out).alloc (.cells #[.int .i64 0, .string ⟨#[]⟩] 45))
    have HB3 := hid ((HB.out.trans hb2).alloc (.cells #[.int .i64 0, .string ⟨#[]⟩] 45))
    have c0 := HC3.out.cell 0
    have c1 := HC3.out.cell 1
    have f0 := HC3.out.frozen 0
    have f1 := HC3.out.frozen 1
    simp only [List.getElem?_toArray, List.getElem?_cons_zero, List.getElem?_cons_succ] at c0 c1
    clear hb2
    go_upto_region 3 with fail
    generalize w2.alloc (.cells #[.int .i64 0, .string ⟨#[]⟩] 45) = w3 at *
    have HP := hid (has_two HC3.out (.string ⟨#[]⟩) (.string ⟨#[]⟩))
    have HBZ := hid (bw_two HB3.out (show w.heap.size ≤ nb + 1 by omega) (.string ⟨#[]⟩) (.string ⟨#[]⟩))
    go_wp2
    obtain ⟨p0, p1⟩ := HP.out
    generalize World.setCell (World.setCell w3 _ _) _ _ = wz at *
    refine bodyPost_ret (by simp [results, Tryd.results22, go_sem, p0, p1]; try rfl) rfl ?_
    exact ⟨by obtain ⟨e1, e2, e3, e4⟩ := HV.out; subst e1 e2 e3 e4; rfl, HBZ.out⟩
  have HS := hid (fun W => sub_in 0 (by omega) s hl p 8 (by omega) W)
  have hlz : (s.extract p (p + 8)).size = 8 := by simp; omega
  have HTX := hid (fun W => text_any (0 + p : Nat) (s.extract p (p + 8)) (by rw [hlz]; decide) W)
  have HUI := hid (fun W => uint4_any (s.extract p (p + 8)) (by rw [hlz]; decide) 4 (by omega) (0 + p) (by omega) W)
  have HX4 := hid (show (s.extract p (p + 8)).extract 0 4 = s.extract p (p + 4) from by
    apply ba_ext
    rw [ext_list, ext_list, ext_list, List.drop_zero, List.take_take]
    congr 1
    omega)
  have HNU := hid (show num4 (s.extract p (p + 8)) 4 = num4 s (p + 4) from by
    unfold num4 numAt
    refine horn_congr 4 fun i hi => ?_
    simp only [dig, Bool.false_eq_true, if_false]
    have := bt_extract s p 8 (4 + 4 - 1 - i) (by omega) (by omega)
    rw [this]
    congr 1
    omega)
  have HFT := hid (fun W => isType_any (s.extract p (p + 4)) (by simp; omega) W)
  have HKB := hid (show chkE s p = if typB (s.extract p (p + 4)) = false then 3 else if s.size < p + 8 + pad (num4 s (p + 4)) then 2 else if num4 s (p + 4) % 2 = 1 ∧ bt s (p + 8 + num4 s (p + 4)) ≠ 0 then 3 else 0 from by
    unfold chkE
    rw [if_neg h8])
  have HCC := hid (show chkC s p = ⟨s.extract p (p + 4), s.extract (p + 8) (p + 8 + num4 s (p + 4))⟩ from rfl)
  have HCN := hid (show chkN s p = p + 8 + pad (num4 s (p + 4)) from rfl)
  have hn := num4_lt s (p + 4)
  obtain ⟨n, hn'⟩ : ∃ n, num4 s (p + 4) = n := ⟨_, rfl⟩
  rw [hn'] at HNU HKB HCC HCN hn
  clear hn'
  obtain ⟨L, hL⟩ : ∃ L, s.extract p (p + 8) = L := ⟨_, rfl⟩
  rw [hL] at HS HTX HUI hlz HX4 HNU
  rw [HNU.out] at HUI
  clear hL HNU
  obtain ⟨T, hT⟩ : ∃ T, s.extract p (p + 4) = T := ⟨_, rfl⟩
  rw [hT] at HX4 HFT HKB HCC
  clear hT
  obtain ⟨q0, hq0⟩ : ∃ q, 0 + p = q := ⟨_, rfl⟩
  rw [hq0] at HS HTX HUI
  clear hq0
  go_enter Tryd.func22, Tryd.ntmps22
  go_wp2_with fail
  rw [hnb] at HN2 HN4
  generalize (w.alloc (.cells #[.int .i64 0, .string s] 45)).alloc (.cells #[.string ⟨#[]⟩, .string ⟨#[]⟩] 42) = W1 at *
  refine (HS.out _).mono ?_
  rintro e w2 ⟨rfl, hb2⟩
  have HC3 := hid ((hb2.has HN4.out).alloc (.cells #[.int .i64 q0, .string L] 45))
  have HW3 := hid ((hb2.has HN2.out).alloc (.cells #[.int .i64 q0, .string L] 45))
  have HL3 := hid (Has.new w2 45 #[.int .i64 q0, .string L])
  have HB3 := hid ((HB.out.trans hb2).alloc (.cells #[.int .i64 q0, .string L] 45))
  obtain ⟨gl, hgl⟩ : ∃ gl, w2.heap.size = gl := ⟨_, rfl⟩
  rw [hgl] at HL3
  clear hb2 HB HN2 HN4
  go_upto_region 4 with fail
  generalize w2.alloc (.cells #[.int .i64 q0, .string L] 45) = w3 at *
  have l0 := HL3.out.cell 0
  have l1 := HL3.out.cell 1
  simp at l0 l1
  clear hgl
  go_wp2_with fail
  refine (HTX.out _).mono ?_
  rintro e w4 ⟨rfl, hb4⟩
  have HB4 := hid (HB3.out.trans hb4)
  have HL4 := hid (hb4.has HL3.out)
  have HC4 := hid (hb4.has HC3.out)
  have HW4 := hid (hb4.has HW3.out)
  clear hb4 HB3 HL3 HC3 HW3 l0 l1
  go_upto_region 5 with fail
  rw [HX4.out]
  go_wp2_with fail
  cases htb : typB T with
  | false =>
    rw [htb] at HFT
    have HV := hid (HOB.out 3 (by rw [HKB.out, if_pos htb]) (by decide))
    clear HOB HOK HKB
    refine (HFT.out _).mono ?_
    rintro e w5 ⟨rfl, hb5⟩
    have HB5 := hid (HB4.out.trans hb5)
    have HC5 := hid (hb5.has HC4.out)
    have c0 := HC5.out.cell 0
    have c1 := HC5.out.cell 1
    have f0 := HC5.out.frozen 0
    have f1 := HC5.out.frozen 1
    simp only [List.getElem?_toArray, List.getElem?_cons_zero, List.getElem?_cons_succ] at c0 c1
    clear hb5
    have HP := hid (has_two HC5.out (.string ⟨#[]⟩) (.string ⟨#[]⟩))
    have HBZ := hid (bw_two HB5.out (show w.heap.size ≤ nb + 1 by omega) (.string ⟨#[]⟩) (.string ⟨#[]⟩))
    go_wp2
    obtain ⟨p0, p1⟩ := HP.out
    generalize World.setCell (World.setCell w5 _ _) _ _ = wz at *
    refine bodyPost_ret (by simp [results, Tryd.results22, go_sem, p0, p1]; try rfl) rfl ?_
    exact ⟨by obtain ⟨e1, e2, e3, e4⟩ := HV.out; subst e1 e2 e3 e4; rfl, HBZ.out⟩
  | true =>
    rw [htb] at HFT HKB
    refine (HFT.out _).mono ?_
    rintro e w5 ⟨rfl, hb5⟩
    have HB5 := hid (HB4.out.trans hb5)
    have HC5 := hid (hb5.has HC4.out)
    have HL5 := hid (hb5.has HL4.out)
    have HW5 := hid (hb5.has HW4.out)
    clear hb5 HB4 HC4 HL4 HW4 HFT
    have l0 := HL5.out.cell 0
    have l1 := HL5.out.cell 1
    simp at l0 l1
    go_wp2_with fail
    refine (HUI.out _).mono ?_
    rintro e w6 ⟨rfl, hb6⟩
    have HB6 := hid (HB5.out.trans hb6)
    have HC6 := hid (hb6.has HC5.out)
    have HL6 := hid (hb6.has HL5.out)
    have HW6 := hid (hb6.has HW5.out)
    clear hb6 HB5 HC5 HL5 HW5 HUI l0 l1
    have m0 := HW6.out.cell 0
    have m1 := HW6.out.cell 1
    simp at m0 m1
    have HPD := hid (fun W => padded_any n (by omega) W)
    obtain ⟨pn, hpn⟩ : ∃ pn, pad n = pn := ⟨_, rfl⟩
    have hpn2 : n ≤ pn ∧ pn ≤ n + 1 := by rw [← hpn]; unfold pad; omega
    have HPN := hid hpn
    rw [hpn] at HPD HKB HCN
    clear hpn
    by_cases hcut : s.size < p + 8 + pn
    · have HV := hid (HOB.out 2 (by rw [HKB.out, if_neg (by decide), if_pos hcut]) (by decide))
      have HS2 := hid (fun W => sub_out 0 (by omega) s hl (p + 8) pn (by omega) W)
      have HP8 := hid (show ((p + 8 : Nat) : Int) = (p : Int) + 8 by omega)
      rw [HP8.out] at HS2
      clear HOB HOK HKB
      have v1 : IntKind.i64.wrap (n : Int) = n := IntWalk.i64_in _ (by omega)
      have v2 : IntKind.i64.wrap ((p : Int) + 8) = (p : Int) + 8 := IntWalk.i64_in _ (by omega)
      go_wp2_with fail
      have HSK := hid (fun W (hW : Bw w6 W) => (show W.cell? ⟨nb, 0, none⟩ = some (.int .i64 0) ∧ W.cell? ⟨nb, 1, none⟩ = some (.string s) from ⟨hW.cell m0, hW.cell m1⟩))
      have HBD := hid (show Bw w6 w6.drew from (Bw.refl w6).drewN 1)
      have HBE := hid (show Bw w6 (w6.alloc (.cells #[.int .i64 0, .string ⟨#[]⟩] 45)).drew from ((Bw.refl w6).alloc _).drewN 1)
      have HC7 := hid (show Has w6.drew (nb + 1) 42 _ from HC6.out.drew)
      have HC7b := hid (show Has (w6.alloc (.cells #[.int .i64 0, .string ⟨#[]⟩] 45)).drew (nb + 1) 42 _ from (HC6.out.alloc _).drew)
      have HG7 := hid (show Has (w6.alloc (.cells #[.int .i64 0, .string ⟨#[]⟩] 45)).drew w6.heap.size 45 #[.int .i64 0, .string ⟨#[]⟩] from (Has.new w6 _ _).drew)
      obtain ⟨gd, hgd⟩ : ∃ gd, w6.heap.size = gd := ⟨_, rfl⟩
      have HNG := hid (show nb + 1 < gd by rw [← hgd]; exact HC6.out.lt)
      rw [hgd] at HG7
      go_region_held3 (fun W => W.cell? ⟨nb, 0, none⟩ = some (.int .i64 0) ∧ W.cell? ⟨nb, 1, none⟩ = some (.string s))
        (first | exact HSK.out _ HBD.out | exact HSK.out _ HBE.out | exact HSK.out _ HB8w.out | exact HSK.out _ (HB8w.out.alloc _) | exact HSK.out _ (bw_two HB8w.out HWG.out _ _) | exact HSK.out _ (bw_two (HB8w.out.alloc _) HWG.out _ _))
        (first | (go_at_call 45; refine (HPD.out _).mono ?_; rintro e w7 ⟨rfl, rfl⟩) | (go_at_call 40; refine (HS2.out w6.drew).mono ?_; rintro e w8 ⟨rfl, hb8⟩; obtain ⟨gd, hgd⟩ : ∃ gd, w8.heap.size = gd := ⟨_, rfl⟩; have HX8 : Hid (Has (w8.alloc (.cells #[.int .i64 0, .string ⟨#[]⟩] 45)) gd 45 #[.int .i64 0, .string ⟨#[]⟩]) := hid (by rw [← hgd]; exact Has.new w8 _ _); have HC8 := hid ((hb8.has HC7.out).alloc (.cells #[.int .i64 0, .string ⟨#[]⟩] 45)); have HB8w := hid (HBD.out.trans hb8); have HC8w := hid (hb8.has HC7.out); have HB8 := hid ((HB6.out.trans (HBD.out.trans hb8)).alloc (.cells #[.int .i64 0, .string ⟨#[]⟩] 45)); have HNG := hid (show nb + 1 < gd by rw [← hgd]; exact (hb8.has HC7.out).lt); have HWG := hid (show w6.heap.size ≤ gd by rw [← hgd]; exact (HBD.out.trans hb8).size); have y0 := HX8.out.frozen 0; have y1 := HX8.out.frozen 1; have x0 : (w8.alloc (.cells #[.int .i64 0, .string ⟨#[]⟩] 45)).cell? ⟨gd, 0, none⟩ = some (.int .i64 0) := HX8.out.cell 0; have x1 : (w8.alloc (.cells #[.int .i64 0, .string ⟨#[]⟩] 45)).cell? ⟨gd, 1, none⟩ = some (.string ⟨#[]⟩) := HX8.out.cell 1; clear hb8) | (go_at_call 40; refine (HS2.out (w6.alloc (.cells #[.int .i64 0, .string ⟨#[]⟩] 45)).drew).mono ?_; rintro e w8 ⟨rfl, hb8⟩; have HX8 := hid (hb8.has HG7.out); have HWG := hid (Nat.le_of_eq hgd); have HC8 := hid (hb8.has HC7b.out); have HB8w := hid (HBE.out.trans hb8); have HC8w := hid (hb8.has HC7b.out); have HB8 := hid (HB6.out.trans (HBE.out.trans hb8)); have y0 := HX8.out.frozen 0; have y1 := HX8.out.frozen 1; have x0 : w8.cell? ⟨gd, 0, none⟩ = some (.int .i64 0) := HX8.out.cell 0; have x1 : w8.cell? ⟨gd, 1, none⟩ = some (.string ⟨#[]⟩) := HX8.out.cell 1; clear hb8))
      all_goals
        first
          | (have hA : w8.heap.size = gd := hgd
             have HB9 := hid ((HB6.out.trans HB8w.out).alloc (.cells #[.int .i64 0, .string ⟨#[]⟩] 45))
             have HC9 := hid (HC8w.out.alloc (.cells #[.int .i64 0, .string ⟨#[]⟩] 45))
             have HD9 : Hid (Has (w8.alloc (.cells #[.int .i64 0, .string ⟨#[]⟩] 45)) gd 45 #[.int .i64 0, .string ⟨#[]⟩]) := hid (by rw [← hA]; exact Has.new w8 _ _)
             generalize w8.alloc (.cells #[.int .i64 0, .string ⟨#[]⟩] 45) = w9 at *)
          | (have HB9 := hid (HB6.out.trans (bw_two HB8w.out HWG.out (.int .i64 0) (.string ⟨#[]⟩)))
             have HC9 := hid ((HC8w.out.far (p := ⟨gd, 0, none⟩) (show nb + 1 ≠ gd by have := HNG.out; omega) (.int .i64 0)).far (p := ⟨gd, 1, none⟩) (show nb + 1 ≠ gd by have := HNG.out; omega) (.string ⟨#[]⟩))
             have HD9 := hid ((HX8.out.put 0 (.int .i64 0)).put 1 (.string ⟨#[]⟩))
             simp only [List.setIfInBounds_toArray, List.set_cons_zero, List.set_cons_succ] at HD9
             generalize World.setCell (World.setCell w8 _ _) _ _ = w9 at *)
        clear y0 y1 x0 x1 HX8 HC8 HB8w HC8w HWG HNG m0 m1
        have c0 := HC9.out.cell 0
        have c1 := HC9.out.cell 1
        have f0 := HC9.out.frozen 0
        have f1 := HC9.out.frozen 1
        simp only [List.getElem?_toArray, List.getElem?_cons_zero, List.getElem?_cons_succ] at c0 c1
        have HP := hid (has_two HC9.out (.string ⟨#[]⟩) (.string ⟨#[]⟩))
        have HBZ := hid (bw_two HB9.out (show w.heap.size ≤ nb + 1 by omega) (.string ⟨#[]⟩) (.string ⟨#[]⟩))
        go_wp2
        obtain ⟨p0, p1⟩ := HP.out
        generalize World.setCell (World.setCell w9 _ _) _ _ = wz at *
        refine bodyPost_ret (by simp [results, Tryd.results22, go_sem, p0, p1]; try rfl) rfl ?_
        exact ⟨by obtain ⟨e1, e2, e3, e4⟩ := HV.out; subst e1 e2 e3 e4; rfl, HBZ.out⟩
    · have HS2 := hid (fun W => sub_in 0 (by omega) s hl (p + 8) pn (by omega) W)
      have HP8 := hid (show ((p + 8 : Nat) : Int) = (p : Int) + 8 by omega)
      rw [HP8.out] at HS2
      have hdz : (s.extract (p + 8) (p + 8 + pn)).size = pn := by simp; omega
      have HTX2 := hid (fun W => text_any (0 + (p + 8) : Nat) (s.extract (p + 8) (p + 8 + pn)) (by rw [hdz]; unfold lim; omega) W)
      have HLN2 := hid (fun W => len_any (0 + (p + 8) : Nat) (s.extract (p + 8) (p + 8 + pn)) (by rw [hdz]; unfold lim; omega) W)
      have HE1 := hid (show (s.extract (p + 8) (p + 8 + pn)).extract 0 n = s.extract (p + 8) (p + 8 + n) from by
        apply ba_ext
        rw [ext_list, ext_list, ext_list, List.drop_zero, List.take_take]
        congr 1
        omega)
      have HE2 := hid (show (s.extract (p + 8) (p + 8 + pn)).extract n (s.extract (p + 8) (p + 8 + pn)).size = s.extract (p + 8 + n) (p + 8 + pn) from by
        rw [hdz]
        apply ba_ext
        rw [ext_list, ext_list, ext_list, List.drop_take, List.take_take, List.drop_drop]
        congr 1
        omega)
      rw [hdz] at HE2
      obtain ⟨D, hD⟩ : ∃ D, s.extract (p + 8) (p + 8 + pn) = D := ⟨_, rfl⟩
      obtain ⟨q1, hq1⟩ : ∃ q, 0 + (p + 8) = q := ⟨_, rfl⟩
      rw [hD] at HS2 HTX2 HLN2 HE1 HE2 hdz
      rw [hq1] at HS2 HTX2 HLN2
      rw [hdz] at HLN2
      clear hD hq1
      have v1 : IntKind.i64.wrap (n : Int) = n := IntWalk.i64_in _ (by omega)
      have v2 : IntKind.i64.wrap ((p : Int) + 8) = (p : Int) + 8 := IntWalk.i64_in _ (by omega)
      go_wp2_with fail
      have HSK := hid (fun W (hW : Bw w6 W) => (show W.cell? ⟨nb, 0, none⟩ = some (.int .i64 0) ∧ W.cell? ⟨nb, 1, none⟩ = some (.string s) from ⟨hW.cell m0, hW.cell m1⟩))
      have HBD := hid (show Bw w6 w6.drew from (Bw.refl w6).drewN 1)
      have HBE := hid (show Bw w6 (w6.alloc (.cells #[.int .i64 0, .string ⟨#[]⟩] 45)).drew from ((Bw.refl w6).alloc _).drewN 1)
      have HC7 := hid (show Has w6.drew (nb + 1) 42 _ from HC6.out.drew)
      have HC7b := hid (show Has (w6.alloc (.cells #[.int .i64 0, .string ⟨#[]⟩] 45)).drew (nb + 1) 42 _ from (HC6.out.alloc _).drew)
      have HG7 := hid (show Has (w6.alloc (.cells #[.int .i64 0, .string ⟨#[]⟩] 45)).drew w6.heap.size 45 #[.int .i64 0, .string ⟨#[]⟩] from (Has.new w6 _ _).drew)
      obtain ⟨gd, hgd⟩ : ∃ gd, w6.heap.size = gd := ⟨_, rfl⟩
      have HNG := hid (show nb + 1 < gd by rw [← hgd]; exact HC6.out.lt)
      rw [hgd] at HG7
      go_region_held3 (fun W => W.cell? ⟨nb, 0, none⟩ = some (.int .i64 0) ∧ W.cell? ⟨nb, 1, none⟩ = some (.string s))
        (first | exact HSK.out _ HBD.out | exact HSK.out _ HBE.out | exact HSK.out _ HB8w.out | exact HSK.out _ (HB8w.out.alloc _) | exact HSK.out _ (bw_two HB8w.out HWG.out _ _) | exact HSK.out _ (bw_two (HB8w.out.alloc _) HWG.out _ _))
        (first | (go_at_call 45; refine (HPD.out _).mono ?_; rintro e w7 ⟨rfl, rfl⟩) | (go_at_call 40; refine (HS2.out w6.drew).mono ?_; rintro e w8 ⟨rfl, hb8⟩; obtain ⟨gd, hgd⟩ : ∃ gd, w8.heap.size = gd := ⟨_, rfl⟩; have HX8 : Hid (Has (w8.alloc (.cells #[.int .i64 0, .string ⟨#[]⟩] 45)) gd 45 #[.int .i64 0, .string ⟨#[]⟩]) := hid (by rw [← hgd]; exact Has.new w8 _ _); have HC8 := hid ((hb8.has HC7.out).alloc (.cells #[.int .i64 0, .string ⟨#[]⟩] 45)); have HB8w := hid (HBD.out.trans hb8); have HC8w := hid (hb8.has HC7.out); have HB8 := hid ((HB6.out.trans (HBD.out.trans hb8)).alloc (.cells #[.int .i64 0, .string ⟨#[]⟩] 45)); have HNG := hid (show nb + 1 < gd by rw [← hgd]; exact (hb8.has HC7.out).lt); have HWG := hid (show w6.heap.size ≤ gd by rw [← hgd]; exact (HBD.out.trans hb8).size); have y0 := HX8.out.frozen 0; have y1 := HX8.out.frozen 1; have x0 : (w8.alloc (.cells #[.int .i64 0, .string ⟨#[]⟩] 45)).cell? ⟨gd, 0, none⟩ = some (.int .i64 0) := HX8.out.cell 0; have x1 : (w8.alloc (.cells #[.int .i64 0, .string ⟨#[]⟩] 45)).cell? ⟨gd, 1, none⟩ = some (.string ⟨#[]⟩) := HX8.out.cell 1; clear hb8) | (go_at_call 40; refine (HS2.out (w6.alloc (.cells #[.int .i64 0, .string ⟨#[]⟩] 45)).drew).mono ?_; rintro e w8 ⟨rfl, hb8⟩; have HX8 := hid (hb8.has HG7.out); have HWG := hid (Nat.le_of_eq hgd); have HC8 := hid (hb8.has HC7b.out); have HB8w := hid (HBE.out.trans hb8); have HC8w := hid (hb8.has HC7b.out); have HB8 := hid (HB6.out.trans (HBE.out.trans hb8)); have y0 := HX8.out.frozen 0; have y1 := HX8.out.frozen 1; have x0 : w8.cell? ⟨gd, 0, none⟩ = some (.int .i64 0) := HX8.out.cell 0; have x1 : w8.cell? ⟨gd, 1, none⟩ = some (.string ⟨#[]⟩) := HX8.out.cell 1; clear hb8))
      all_goals
        first
          | (have hA : w8.heap.size = gd := hgd
             have HB9 := hid ((HB6.out.trans HB8w.out).alloc (.cells #[.int .i64 q1, .string D] 45))
             have HC9 := hid (HC8w.out.alloc (.cells #[.int .i64 q1, .string D] 45))
             have HD9 : Hid (Has (w8.alloc (.cells #[.int .i64 q1, .string D] 45)) gd 45 #[.int .i64 q1, .string D]) := hid (by rw [← hA]; exact Has.new w8 _ _)
             generalize w8.alloc (.cells #[.int .i64 q1, .string D] 45) = w9 at *)
          | (have HB9 := hid (HB6.out.trans (bw_two HB8w.out HWG.out (.int .i64 q1) (.string D)))
             have HC9 := hid ((HC8w.out.far (p := ⟨gd, 0, none⟩) (show nb + 1 ≠ gd by have := HNG.out; omega) (.int .i64 q1)).far (p := ⟨gd, 1, none⟩) (show nb + 1 ≠ gd by have := HNG.out; omega) (.string D))
             have HD9 := hid ((HX8.out.put 0 (.int .i64 q1)).put 1 (.string D))
             simp only [List.setIfInBounds_toArray, List.set_cons_zero, List.set_cons_succ] at HD9
             generalize World.setCell (World.setCell w8 _ _) _ _ = w9 at *)
        clear y0 y1 x0 x1 HX8 HC8 HB8w HC8w HWG HNG m0 m1
        have HSK9 := hid (fun W (hW : Bw w9 W) => (show W.cell? ⟨gd, 0, none⟩ = some (.int .i64 q1) ∧ W.cell? ⟨gd, 1, none⟩ = some (.string D) from ⟨(hW.has HD9.out).cell 0, (hW.has HD9.out).cell 1⟩))
        have HNE := hid (show gd ≠ nb + 1 from fun e => by
          have h1 := HD9.out
          have h2 := HC9.out
          unfold Has at h1 h2
          rw [e, h2] at h1
          injection h1 with h1
          injection h1 with _ h1
          exact absurd h1 (by decide))
        have HSF := hid (fun W x y (hW : Bw w9 W) => (show ((W.setCell ⟨nb + 1, 0, none⟩ x).setCell ⟨nb + 1, 1, none⟩ y).cell? ⟨gd, 0, none⟩ = some (.int .i64 q1) ∧ ((W.setCell ⟨nb + 1, 0, none⟩ x).setCell ⟨nb + 1, 1, none⟩ y).cell? ⟨gd, 1, none⟩ = some (.string D) from
          ⟨(((hW.has HD9.out).far (p := ⟨nb + 1, 0, none⟩) HNE.out x).far (p := ⟨nb + 1, 1, none⟩) HNE.out y).cell 0, (((hW.has HD9.out).far (p := ⟨nb + 1, 0, none⟩) HNE.out x).far (p := ⟨nb + 1, 1, none⟩) HNE.out y).cell 1⟩))
        have HBD9 := hid (show Bw w9 w9.drew from (Bw.refl w9).drewN 1)
        clear hgd
        have hnD : n ≤ D.size := by omega
        go_wp2_with fail
        go_region_held3 (fun W => W.cell? ⟨gd, 0, none⟩ = some (.int .i64 q1) ∧ W.cell? ⟨gd, 1, none⟩ = some (.string D))
          (first | exact HSK9.out _ HBD9.out | exact HSK9.out _ HBa.out | exact HSK9.out _ HBb.out)
          (first | (go_at_call 41; refine (HTX2.out _).mono ?_; rintro e wb ⟨rfl, hbb⟩; have HBb := hid (HBa.out.trans hbb); clear hbb) | (go_at_call 41; refine (HTX2.out _).mono ?_; rintro e wa ⟨rfl, hba⟩; have HBa := hid (HBD9.out.trans hba); clear hba))
        rw [HE1.out, HE2.out]
        have hdn : (s.extract (p + 8) (p + 8 + n)).size = n := by simp; omega
        have hT4 := typ_size htb
        have HCT := hid (fun W => lib_Clone T (by omega) W)
        have HCD := hid (fun W => lib_Clone (s.extract (p + 8) (p + 8 + n)) (by omega) W)
        have hpn3 : pn = n + n % 2 := by rw [← HPN.out]; rfl
        obtain ⟨DT, hDT⟩ : ∃ DT, s.extract (p + 8) (p + 8 + n) = DT := ⟨_, rfl⟩
        rw [hDT] at hdn HCD HCC ⊢
        clear hDT
        have HB10 := hid (HB9.out.trans HBb.out)
        have HC10 := hid (HBb.out.has HC9.out)
        by_cases hbad : n % 2 = 1 ∧ bt s (p + 8 + n) ≠ 0
        · have HV := hid (HOB.out 3 (by rw [HKB.out, if_neg (by decide), if_neg hcut, if_pos hbad]) (by decide))
          have hpt : s.extract (p + 8 + n) (p + 8 + pn) = ⟨#[s[p + 8 + n]'(by omega)]⟩ := by
            rw [show p + 8 + pn = p + 8 + n + 1 by omega]
            apply ba_ext
            rw [ext_list, Nat.add_sub_cancel_left, List.drop_eq_getElem_cons (by simp; omega)]
            simp [ByteArray.getElem_eq_getElem_data]
          have hc := hbad.2
          rw [bt_eq s (p + 8 + n) (by omega)] at hc
          rw [hpt]
          obtain ⟨c, hcc⟩ : ∃ c, s[p + 8 + n]'(by omega) = c := ⟨_, rfl⟩
          rw [hcc] at hc ⊢
          have hc0 : (c == 0) = false := by
            rw [beq_eq_false_iff_ne]
            intro e
            exact hc (by rw [e]; rfl)
          clear hc hcc hpt HOB HOK HKB hbad
          have c0 := HC10.out.cell 0
          have c1 := HC10.out.cell 1
          have f0 := HC10.out.frozen 0
          have f1 := HC10.out.frozen 1
          simp only [List.getElem?_toArray, List.getElem?_cons_zero, List.getElem?_cons_succ] at c0 c1
          have HP := hid (has_two HC10.out (.string ⟨#[]⟩) (.string ⟨#[]⟩))
          have HBZ := hid (bw_two HB10.out (show w.heap.size ≤ nb + 1 by omega) (.string ⟨#[]⟩) (.string ⟨#[]⟩))
          go_wp2
          obtain ⟨p0, p1⟩ := HP.out
          generalize World.setCell (World.setCell wb _ _) _ _ = wz at *
          refine bodyPost_ret (by simp [results, Tryd.results22, go_sem, p0, p1]; try rfl) rfl ?_
          exact ⟨by obtain ⟨e1, e2, e3, e4⟩ := HV.out; subst e1 e2 e3 e4; rfl, HBZ.out⟩
        · have HV0 : chkE s p = 0 := by rw [HKB.out, if_neg (by decide), if_neg hcut, if_neg hbad]
          have HV := hid (HOK.out HV0)
          rw [HCC.out, HCN.out] at HV
          have HPT : s.extract (p + 8 + n) (p + 8 + pn) = ⟨#[]⟩ ∨ s.extract (p + 8 + n) (p + 8 + pn) = ⟨#[0]⟩ := by
            by_cases ho : n % 2 = 1
            · right
              have hb0 : bt s (p + 8 + n) = 0 := by
                rcases Nat.eq_zero_or_pos (bt s (p + 8 + n)) with h | h
                · exact h
                · exact absurd ⟨ho, by omega⟩ hbad
              rw [bt_eq s (p + 8 + n) (by omega)] at hb0
              rw [show p + 8 + pn = p + 8 + n + 1 by omega]
              apply ba_ext
              rw [ext_list, Nat.add_sub_cancel_left, List.drop_eq_getElem_cons (by simp; omega)]
              have : s[p + 8 + n]'(by omega) = 0 := UInt8.toNat_inj.1 (by rw [hb0]; rfl)
              simpa [ByteArray.getElem_eq_getElem_data] using this
            · left
              rw [show p + 8 + pn = p + 8 + n by omega]
              apply ba_ext
              rw [ext_list, Nat.sub_self, List.take_zero]
          clear HV0 HOB HOK HKB hbad HCC HCN HPN hpn3
          have v3 : IntKind.i64.wrap ((p : Int) + 8 + pn) = (p : Int) + 8 + pn := IntWalk.i64_in _ (by omega)
          have HBDb := hid (show Bw w9 wb.drew from HBb.out.drewN 1)
          rcases HPT with hpt | hpt
          all_goals
            rw [hpt]
            clear hpt
            go_wp2_with fail
            go_region_held3 (fun W => W.cell? ⟨gd, 0, none⟩ = some (.int .i64 q1) ∧ W.cell? ⟨gd, 1, none⟩ = some (.string D))
              (first | exact HSK9.out _ HBDb.out | exact HSK9.out _ HBc.out | exact HSK9.out _ HBd.out | exact HSK9.out _ HBe.out | exact HSF.out _ _ _ HBe.out)
              (first | (go_at_call 44; refine (HLN2.out _).mono ?_; rintro e we ⟨rfl, hbe⟩; have HBe := hid (HBd.out.trans hbe); have HCe := hid (HBe.out.has HC9.out); have c0 := HCe.out.cell 0; have c1 := HCe.out.cell 1; have f0 := HCe.out.frozen 0; have f1 := HCe.out.frozen 1; simp only [List.getElem?_toArray, List.getElem?_cons_zero, List.getElem?_cons_succ] at c0 c1; clear hbe) | (go_at_call 23; refine (HCD.out _).mono ?_; rintro e wd ⟨rfl, hbd⟩; have HBd := hid (HBc.out.trans hbd); clear hbd) | (go_at_call 23; refine (HCT.out _).mono ?_; rintro e wc ⟨rfl, hbc⟩; have HBc := hid (HBDb.out.trans hbc); clear hbc))
            all_goals
              have HP := hid (has_two HCe.out (.string T) (.string DT))
              have HBZ := hid (bw_two (HB9.out.trans HBe.out) (show w.heap.size ≤ nb + 1 by omega) (.string T) (.string DT))
              go_wp2
              obtain ⟨p0, p1⟩ := HP.out
              generalize World.setCell (World.setCell we _ _) _ _ = wz at *
              refine bodyPost_ret (by simp [results, Tryd.results22, go_sem, p0, p1]; try rfl) rfl ?_
              exact ⟨by injection HV.out with e1 e2; injection e2 with e2 e3; injection e3 with e3 e4; subst e1 e2 e3 e4; exact ret_chk (by go_num), HBZ.out⟩
end Go.Proofs.YtgkgimfdbkpbdaaDoor
