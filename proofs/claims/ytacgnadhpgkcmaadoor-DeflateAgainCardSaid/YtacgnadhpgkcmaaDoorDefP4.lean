import Derived.Test.YtacgnadhpgkcmaaDoorDefP3
import Derived.Test.YtacgnadhpgkcmaaDoorMap0
/- Dynamic: a block by codes of its own (contract of the function). -/
namespace Go.Proofs.YtacgnadhpgkcmaaDoor
open Go.RowKit Go.Conc
set_option linter.unusedVariables false
/-- What Dynamic writes. -/
def dynP (ts : List TokR) : List (Nat × Nat) := (5, 3) :: (hdrP (ownL ts) (ownD ts) ++ toksP (ownL ts) (ownD ts) ts)
set_option maxHeartbeats 1000000 in
theorem Dynamic_bad (a : Option Addr) (n cap : Nat) (hn : n ≤ 1000000) (ts : List TokR) (hts : Hid (ts.length = n)) (hok : costOk ts = false) (w : World) (hst : ToksAt w a ts) :
    Calls Tryd.prog 5 #[.slice a n cap] w fun e w' => e = .returned (.tuple #[.string ⟨#[]⟩, .int .i64 1]) ∧ Bw w w' := by
  have HV := hid (valid_any a n cap hn ts hts w hst)
  have hE : costE ts = 1 := by unfold costE; rw [hok]; rfl
  rw [hE] at HV
  clear hst hE
  go_enter Tryd.func5, Tryd.ntmps5
  go_wp2_with fail
  refine HV.out.mono ?_
  rintro e w2 ⟨rfl, hb⟩
  have HB := hid hb
  clear hb
  go_wp2
  go_returns
  exact ⟨rfl, HB.out⟩
theorem gvP_le (Fl : List Int) (j : Nat) (h : j ≤ 19) : pcK (gvP Fl j) ≤ 57 := by rw [gvP_len]; omega
theorem hdrP_le {L D : List Int} (hL : IsCode L) (hD : IsCode D) : pcK (hdrP L D) ≤ 18000 := by
  have h15 : ∀ x ∈ L ++ D, 0 ≤ x ∧ x ≤ 15 := fun x hx => by
    rcases List.mem_append.1 hx with hx | hx
    · exact hL.range x hx
    · exact hD.range x hx
  have h1 := hL.few
  have h2 := hD.few
  have h3 : (allP (L ++ D)).length ≤ 640 := by have := partsL_len (L ++ D) (L ++ D).length 0; rw [List.length_append] at this; unfold allP; rw [List.length_append]; omega
  have h4 := sqP_le (IsCode.of_check (fstL_check (allP (L ++ D)))) (allP (L ++ D)) (partsL_ok h15 _ _) _ (Nat.le_refl _)
  rw [sqP_all] at h4
  have h5 := gvP_le (fstL (allP (L ++ D))) (gvN (fstL (allP (L ++ D)))) (trim_le _ 4 19)
  unfold hdrP
  rw [pcK_app, pcK_app]
  have h6 : pcK (hdr3 L D) = 14 := rfl
  omega
set_option maxRecDepth 100000 in
set_option maxHeartbeats 4000000 in
theorem Dynamic_ok (a : Option Addr) (n cap : Nat) (hn : n ≤ 1000000) (ts : List TokR) (hts : Hid (ts.length = n)) (hok : costOk ts = true) (w : World) (hst : ToksAt w a ts) (hO : OrdAt w) :
    Calls Tryd.prog 5 #[.slice a n cap] w fun e w' => e = .returned (.tuple #[.string (outS (dynP ts)), .int .i64 0]) ∧ Bw w w' := by
  have HV := hid (valid_any a n cap hn ts hts w hst)
  have hE : costE ts = 0 := by unfold costE; rw [hok]; rfl
  rw [hE] at HV
  have HST := hid hst
  have hlit : ∀ t ∈ ts, t.lit < 256 := fun t ht => by
    obtain ⟨i, hi, rfl⟩ := List.getElem_of_mem ht
    obtain ⟨_, _, _, _, _, _, _, h⟩ := hst i hi
    exact h
  have HIN := hid (own_in hok hlit)
  have HOK := hid hok
  have hL := IsCode.of_check (ownL_check ts)
  have hD := IsCode.of_check (ownD_check ts)
  have hpl : pcK (toksP (ownL ts) (ownD ts) ts) ≤ 56 * n + 28 := by
    have h1 := toks_le hL hD ts hok hlit
    have h2 := symP_le hL (s := ⟨256, 0, 0⟩) (by decide)
    unfold toksP
    rw [pcK_app]
    rw [hts.out] at h1
    omega
  have hhl := hdrP_le hL hD
  have HOW := hid (fun W (h : Bw w W) => ownCodes_any a n cap hn ts hts hok W (hst.below h))
  have HL := hid hL
  have HD := hid hD
  have HLn := hid (ownL_len ts)
  have HDn := hid (ownD_len ts)
  obtain ⟨l1, l2⟩ := ownLn_ge ts
  obtain ⟨d1, d2⟩ := ownDn_ge ts
  have HE := hid (show strN (5 + pcN (hdrP (ownL ts) (ownD ts)) * 2 ^ 3 + pcN (toksP (ownL ts) (ownD ts) ts) * 2 ^ (3 + pcK (hdrP (ownL ts) (ownD ts)))) ((3 + pcK (hdrP (ownL ts) (ownD ts)) + pcK (toksP (ownL ts) (ownD ts) ts) + 7) / 8) = outS (dynP ts) from by
    unfold outS dynP
    rw [pcN_at, pcN, pcK, pcK_app, Nat.mul_comm (pcN _) (2 ^ 3), Nat.add_assoc 3 (pcK _) (pcK _)])
  have HOR := hid hO
  generalize ownL ts = L at *
  generalize ownD ts = D at *
  generalize ownLn ts = ln at *
  generalize ownDn ts = dn at *
  clear hst hE hlit hok hL hD hO
  go_enter Tryd.func5, Tryd.ntmps5
  go_wp2_with fail
  refine HV.out.mono ?_
  rintro e w1 ⟨rfl, hb⟩
  have HB1 := hid hb
  clear hb HV
  go_wp2_with fail
  refine (HOW.out w1 HB1.out).mono ?_
  rintro e w2 ⟨lb, ub, uc, lb2, ub2, uc2, rfl, hC, hb⟩
  have HC := hid hC
  have HB2 := hid (HB1.out.trans hb)
  clear hC hb HOW
  unfold codes4
  go_wp2_with fail
  have HCD := hid ((Has.new w2 37 #[.slice (some ⟨lb, 0, none⟩) ln 286, .slice (some ⟨ub, 0, none⟩) ln uc, .slice (some ⟨lb2, 0, none⟩) dn 30, .slice (some ⟨ub2, 0, none⟩) dn uc2]).alloc (.cells #[.int .i64 0, .slice none 0 0, .int .u8 0] 46))
  have HF := hid (WrF.fresh (Has.new (w2.alloc (.cells #[.slice (some ⟨lb, 0, none⟩) ln 286, .slice (some ⟨ub, 0, none⟩) ln uc, .slice (some ⟨lb2, 0, none⟩) dn 30, .slice (some ⟨ub2, 0, none⟩) dn uc2] 37)) 46 #[.int .i64 0, .slice none 0 0, .int .u8 0]))
  have HBW := hid (((Bw.refl w2).alloc (.cells #[.slice (some ⟨lb, 0, none⟩) ln 286, .slice (some ⟨ub, 0, none⟩) ln uc, .slice (some ⟨lb2, 0, none⟩) dn 30, .slice (some ⟨ub2, 0, none⟩) dn uc2] 37)).alloc (.cells #[.int .i64 0, .slice none 0 0, .int .u8 0] 46))
  have HZ3 := hid (show ((w2.alloc (.cells #[.slice (some ⟨lb, 0, none⟩) ln 286, .slice (some ⟨ub, 0, none⟩) ln uc, .slice (some ⟨lb2, 0, none⟩) dn 30, .slice (some ⟨ub2, 0, none⟩) dn uc2] 37)).alloc (.cells #[.int .i64 0, .slice none 0 0, .int .u8 0] 46)).heap.size = w2.heap.size + 2 by simp)
  rw [show (w2.alloc (.cells #[.slice (some ⟨lb, 0, none⟩) ln 286, .slice (some ⟨ub, 0, none⟩) ln uc, .slice (some ⟨lb2, 0, none⟩) dn 30, .slice (some ⟨ub2, 0, none⟩) dn uc2] 37)).heap.size = w2.heap.size + 1 by simp] at HF
  generalize (w2.alloc (.cells #[.slice (some ⟨lb, 0, none⟩) ln 286, .slice (some ⟨ub, 0, none⟩) ln uc, .slice (some ⟨lb2, 0, none⟩) dn 30, .slice (some ⟨ub2, 0, none⟩) dn uc2] 37)).alloc (.cells #[.int .i64 0, .slice none 0 0, .int .u8 0] 46) = W3 at *
  have hz2 := HB2.out.size
  obtain ⟨cb, hcb⟩ : ∃ cb, w2.heap.size = cb := ⟨_, rfl⟩
  rw [hcb] at HCD HF HZ3 hz2 ⊢
  have HCB := hid hcb
  clear hcb
  have HB3 := hid (HB2.out.trans HBW.out)
  have HZ := hid hz2
  have HCL := hid (HC.out.l.bw HBW.out)
  have HCR := hid (HC.out.d.bw HBW.out)
  have HNE := hid (show lb ≠ cb + 1 ∧ ub ≠ cb + 1 ∧ lb2 ≠ cb + 1 ∧ ub2 ≠ cb + 1 by
    have h1 := HC.out.l.l1
    have h2 := HC.out.l.u1
    have h3 := HC.out.d.l1
    have h4 := HC.out.d.u1
    have := HCB.out
    omega)
  have HNO := hid (show 0 ≠ cb + 1 by have := HOR.out.1; omega)
  have HT3 := hid (HST.out.below HB3.out)
  have HTA := hid (show ∀ b o, 0 < n → a = some ⟨b, o, none⟩ → b ≠ cb + 1 from fun b o hn0 ea => by
    obtain ⟨b', off', e', hl', _⟩ := HST.out 0 (by rw [hts.out]; exact hn0)
    have hlt : b < w.heap.size := by rw [ea] at e'; injection e' with e'; injection e' with e1; omega
    omega)
  have HO3 := hid (HOR.out.bw HB3.out)
  clear hz2
  refine (begin_any (· = cb + 1) (cb + 1) 0 0 (by decide) 2 (by decide) true W3 HF.out).mono ?_
  rintro e w4 ⟨rfl, h4⟩
  rw [show 0 + (lb1 true + 2 * 2) * 2 ^ 0 = 5 from rfl, show 0 + 3 = 3 from rfl] at h4
  have H4 := hid h4
  clear h4
  -- what a world behind has
  have HCC := hid (fun V k' N' (hp : WPost (· = cb + 1) (cb + 1) k' N' W3 V) => hp.has HCD.out (show ¬ cb = cb + 1 by omega))
  have HALL := hid (show ∀ V k' N', WPost (· = cb + 1) (cb + 1) k' N' W3 V → ∃ F', WrF F' V (cb + 1) k' N' ∧ Keeps (· = cb + 1) W3 V ∧ (∀ i, F' i → i = cb + 1 ∨ W3.heap.size ≤ i) ∧ CodeAt V lb ub L ∧ CodeAt V lb2 ub2 D ∧ OrdAt V ∧ ToksAt V a ts ∧ ¬ F' lb ∧ ¬ F' ub ∧ ¬ F' lb2 ∧ ¬ F' ub2 ∧ ¬ F' 0 ∧ ∀ b o, 0 < n → a = some ⟨b, o, none⟩ → ¬ F' b from fun V k' N' hp => by
    obtain ⟨F', h1, h2, h3⟩ := hp
    refine ⟨F', h1, h2, h3, HCL.out.keep h2 HNE.out.1 HNE.out.2.1, HCR.out.keep h2 HNE.out.2.2.1 HNE.out.2.2.2, HO3.out.block h2.size (h2.block _ HO3.out.1 HNO.out), fun i hi => ?_, WPost.more h3 HCL.out.l1 HNE.out.1, WPost.more h3 HCL.out.u1 HNE.out.2.1, WPost.more h3 HCR.out.l1 HNE.out.2.2.1, WPost.more h3 HCR.out.u1 HNE.out.2.2.2, WPost.more h3 HO3.out.1 HNO.out, fun b o hn0 ea => ?_⟩
    · obtain ⟨b, off, e, hl, q0, q1, q2, q3⟩ := HT3.out i hi
      have hbk := h2.block b hl (HTA.out b off (by have := hts.out; omega) e)
      exact ⟨b, off, e, Nat.lt_of_lt_of_le hl h2.size, (World.cell?_of_block hbk).trans q0, (World.cell?_of_block hbk).trans q1, (World.cell?_of_block hbk).trans q2, q3⟩
    · obtain ⟨b', off', e', hl', _⟩ := HT3.out 0 (by rw [hts.out]; exact hn0)
      have hlt : b < W3.heap.size := by rw [ea] at e'; injection e' with e'; injection e' with e1; omega
      exact WPost.more h3 hlt (HTA.out b o hn0 ea))
  have c0 := (HCC.out _ _ _ H4.out).cell 0
  have c1 := (HCC.out _ _ _ H4.out).cell 1
  have c2 := (HCC.out _ _ _ H4.out).cell 2
  have c3 := (HCC.out _ _ _ H4.out).cell 3
  go_wp2_with fail
  clear c0 c1 c2 c3
  obtain ⟨F4, k1, k2, k3, k4, k5, k6, k7, n1, n2, n3, n4, n5, n6⟩ := HALL.out _ _ _ H4.out
  refine (header_any F4 (cb + 1) 3 5 lb 286 ub uc ln lb2 30 ub2 uc2 dn L D HL.out HD.out HLn HDn l1 l2 d1 d2 (by decide) w4 k1 k4 k5 n1 n2 n3 n4 k6 n5).mono ?_
  rintro e w5 ⟨rfl, h5⟩
  have H5 := hid (WPost.step k2 k3 h5)
  clear k1 k2 k3 k4 k5 k6 k7 n1 n2 n3 n4 n5 n6 h5
  have c0 := (HCC.out _ _ _ H5.out).cell 0
  have c1 := (HCC.out _ _ _ H5.out).cell 1
  have c2 := (HCC.out _ _ _ H5.out).cell 2
  have c3 := (HCC.out _ _ _ H5.out).cell 3
  go_wp2_with fail
  clear c0 c1 c2 c3
  obtain ⟨F5, k1, k2, k3, k4, k5, k6, k7, n1, n2, n3, n4, n5, n6⟩ := HALL.out _ _ _ H5.out
  refine (tokens_any F5 (cb + 1) _ _ lb 286 ub uc ln lb2 30 ub2 uc2 dn L D HL.out HD.out HLn HDn (by omega) a n cap ts hts hn HOK.out HIN.out (by omega) w5 k1 k4 k5 n1 n2 n3 n4 k7 n6).mono ?_
  rintro e w6 ⟨rfl, h6⟩
  obtain ⟨F6, m1, m2, m3⟩ := WPost.step k2 k3 h6
  have HWS := hid (wstr_any F6 (cb + 1) _ _ (by omega) w6 m1)
  have HB6 := hid (show Bw w w6 from Below.trans HB3.out (m2.below (B := w.heap.size) (by have := HZ.out; have := HZ3.out; omega) (fun i (hi : i = cb + 1) => by have := HZ.out; omega)))
  clear k1 k2 k3 k4 k5 k6 k7 n1 n2 n3 n4 n5 n6 h6 m1 m2 m3
  go_wp2_with fail
  refine HWS.out.mono ?_
  rintro e w7 ⟨rfl, hb7⟩
  rw [HE.out]
  have HB7 := hid (HB6.out.trans hb7)
  clear hb7
  go_wp2
  go_returns
  exact ⟨rfl, HB7.out⟩
end Go.Proofs.YtacgnadhpgkcmaaDoor
/- Deflate: the shortest of the three (contract of the function). -/
namespace Go.Proofs.YtacgnadhpgkcmaaDoor
open Go.RowKit Go.Conc
set_option linter.unusedVariables false
def short2 (a b : ByteArray) : ByteArray := if b.size < a.size then b else a
/-- The shortest of the three. -/
def defS (s : ByteArray) (ts : List TokR) : ByteArray := short2 (short2 ⟨(stoL s.data.toList).toArray⟩ (outS (fixP ts))) (outS (dynP ts))
theorem exp_cost (lim : Int) : ∀ (l : List TokR) (out r : List UInt8), expGo lim l out = (0, r) → costOk l = true
  | [], _, _, _ => rfl
  | t :: l, out, r, h => by
    rw [expGo] at h
    split at h
    · rename_i c
      have h1 := exp_cost lim l _ r h
      have h2 : tokOk t = true := by
        unfold tokOk
        unfold tokE at c
        cases hb : isB t with
        | true => rfl
        | false =>
          cases hm : isM t with
          | true => rfl
          | false => rw [hb, hm] at c; simp at c
      unfold costOk at h1 ⊢
      rw [List.all_cons, h2, h1]
      rfl
    · rename_i c
      injection h with h1 _
      exact absurd h1 c
theorem toks_lit {w : World} {a : Option Addr} {ts : List TokR} (h : ToksAt w a ts) : ∀ t ∈ ts, t.lit < 256 := fun t ht => by
  obtain ⟨i, hi, rfl⟩ := List.getElem_of_mem ht
  obtain ⟨_, _, _, _, _, _, _, h⟩ := h i hi
  exact h
set_option maxRecDepth 100000 in
set_option maxHeartbeats 4000000 in
theorem Deflate_any (s : ByteArray) (hs : s.size ≤ 20000) (w : World) (hO : OrdAt w) :
    Calls Tryd.prog 6 #[.string s] w fun e w' => ∃ ts : List TokR, FindOk s ts ∧ e = .returned (.string (defS s ts)) ∧ Bw w w' ∧ ts = findL s := by
  have HS := hid (Stored_any s (by omega) w)
  have HF := hid (fun W => find_any s hs W)
  have HO := hid hO
  clear hO
  go_enter Tryd.func6, Tryd.ntmps6
  go_wp2_with fail
  refine HS.out.mono ?_
  rintro e w1 ⟨rfl, hb1⟩
  have HB1 := hid hb1
  clear hb1 HS
  go_wp2_with fail
  refine (HF.out w1).mono ?_
  rintro e w2 ⟨ts, a, cap, rfl, hfo, htk, hb2, _, hfl⟩
  have HFL := hid hfl
  clear hfl
  obtain ⟨n, hn⟩ : ∃ n, ts.length = n := ⟨_, rfl⟩
  have hn6 : n ≤ 1000000 := by have := hfo.2.2.1; omega
  have hok := exp_cost _ _ _ _ hfo.2.1
  have HFX := hid (fun W (hW : Bw w2 W) => Fixed_ok a n cap hn6 ts (hid hn) hok W (htk.below hW))
  have HDY := hid (fun W (hW : Bw w2 W) => Dynamic_ok a n cap hn6 ts (hid hn) hok W (htk.below hW) (HO.out.bw ((HB1.out.trans hb2).trans hW)))
  have HFO := hid hfo
  have HB2 := hid (HB1.out.trans hb2)
  have HR := hid (show defS s ts = short2 (short2 ⟨(stoL s.data.toList).toArray⟩ (outS (fixP ts))) (outS (dynP ts)) from rfl)
  rw [hn]
  clear hn hok hfo htk hb2 HF
  generalize (⟨(stoL s.data.toList).toArray⟩ : ByteArray) = st at *
  generalize outS (fixP ts) = fx at *
  generalize outS (dynP ts) = dy at *
  go_wp2_with fail
  have HL := hid (Has.new w2 26 #[.func (.func 7) #[] #[], .func (.func 5) #[] #[]])
  have HB3 := hid ((Bw.refl w2).alloc (.cells #[.func (.func 7) #[] #[], .func (.func 5) #[] #[]] 26))
  generalize w2.alloc (.cells #[.func (.func 7) #[] #[], .func (.func 5) #[] #[]] 26) = W3 at *
  have c0 := HL.out.cell 0
  refine wp_loop_rounds 3 ?_
  rw [rounds_succ]
  go_wp2_with fail
  refine (HFX.out W3 HB3.out).mono ?_
  rintro e w4 ⟨rfl, hb4⟩
  have HB4 := hid (HB3.out.trans hb4)
  have c1 := (hb4.has HL.out).cell 1
  clear hb4 c0
  by_cases h1 : fx.size < st.size
  · have h1i : (fx.size : Int) < st.size := by omega
    have HX := hid (show short2 st fx = fx from if_pos h1)
    clear h1
    go_wp2_with fail
    rw [rounds_succ]
    go_wp2_with fail
    refine (HDY.out w4 HB4.out).mono ?_
    rintro e w5 ⟨rfl, hb5⟩
    have HB5 := hid (HB4.out.trans hb5)
    clear hb5
    by_cases h2 : dy.size < fx.size
    · have h2i : (dy.size : Int) < fx.size := by omega
      have HE := hid (show defS s ts = dy by rw [HR.out, HX.out]; exact if_pos h2)
      clear h2
      go_wp2_with fail
      rw [rounds_succ]
      go_wp2
      go_returns
      exact ⟨ts, HFO.out, by rw [HE.out]; rfl, HB2.out.trans HB5.out, HFL.out⟩
    · have h2i : decide (dy.size < fx.size) = false := decide_eq_false h2
      have HE := hid (show defS s ts = fx by rw [HR.out, HX.out]; exact if_neg h2)
      clear h2
      go_wp2_with fail
      rw [rounds_succ]
      go_wp2
      go_returns
      exact ⟨ts, HFO.out, by rw [HE.out]; rfl, HB2.out.trans HB5.out, HFL.out⟩
  · have h1i : decide (fx.size < st.size) = false := decide_eq_false h1
    have HX := hid (show short2 st fx = st from if_neg h1)
    clear h1
    go_wp2_with fail
    rw [rounds_succ]
    go_wp2_with fail
    refine (HDY.out w4 HB4.out).mono ?_
    rintro e w5 ⟨rfl, hb5⟩
    have HB5 := hid (HB4.out.trans hb5)
    clear hb5
    by_cases h2 : dy.size < st.size
    · have h2i : (dy.size : Int) < st.size := by omega
      have HE := hid (show defS s ts = dy by rw [HR.out, HX.out]; exact if_pos h2)
      clear h2
      go_wp2_with fail
      rw [rounds_succ]
      go_wp2
      go_returns
      exact ⟨ts, HFO.out, by rw [HE.out]; rfl, HB2.out.trans HB5.out, HFL.out⟩
    · have h2i : decide (dy.size < st.size) = false := decide_eq_false h2
      have HE := hid (show defS s ts = st by rw [HR.out, HX.out]; exact if_neg h2)
      clear h2
      go_wp2_with fail
      rw [rounds_succ]
      go_wp2
      go_returns
      exact ⟨ts, HFO.out, by rw [HE.out]; rfl, HB2.out.trans HB5.out, HFL.out⟩
end Go.Proofs.YtacgnadhpgkcmaaDoor
