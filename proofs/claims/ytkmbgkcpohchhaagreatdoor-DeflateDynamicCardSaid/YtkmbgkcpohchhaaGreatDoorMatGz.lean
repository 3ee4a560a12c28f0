import Derived.Test.YtkmbgkcpohchhaaGreatDoorGDzM
import Derived.Test.YtkmbgkcpohchhaaGreatDoorMatE0
/- The document's Expand (contract of the function). -/
namespace Go.Proofs.YtkmbgkcpohchhaaGreatDoor
open Go.RowKit
set_option linter.unusedVariables false
set_option maxRecDepth 100000 in
set_option maxHeartbeats 4000000 in
theorem rexp_ok (a : Option Addr) (len cap : Nat) (hlen : len ≤ 1000000) (l : List TokR) (hll : Hid (l.length = len)) (limit : Int) (hlm0 : 0 ≤ limit) (hlm1 : limit ≤ 1073741824) (w : World) (hst : ToksAt w a l) :
    Calls Tryz.prog 12 #[.slice a len cap, .int .i64 limit] w (ExpPost l limit w) := by
  obtain ⟨i0, hinf, hz0, hz1, hz2⟩ := info_parts byteInfo
  have HLM := hid (show lmB limit = true from decide_eq_true ⟨hlm0, hlm1⟩)
  have HST := hid hst
  clear hst
  go_enter Tryz.func12, Tryz.ntmps12
  go_wp2
  go_loopw [6, 7] (fun v i wr => ∃ k n : Nat, ∃ out : List UInt8, k ≤ len ∧ i = .int .i64 k ∧ wr.ownsRow w.heap.size 5 1 v n (bcs out) ∧ Hid (out.length = n) ∧ (n : Int) ≤ limit ∧ Hid (expGo limit l [] = expGo limit (l.drop k) out) ∧ Bw w wr) (fun _ i _ => len - (intOf i).toNat)
  case atStart => exact ⟨0, 0, [], Nat.zero_le _, rfl, World.ownsRow_nil _ _ _ _, hid rfl, hlm0, hid rfl, Bw.refl w⟩
  case round =>
    rename_i wr
    obtain ⟨k, n, out, hk, rfl, hput, HN, hol, HG, hbw⟩ := hrel
    obtain ⟨vo, vc, rfl⟩ := own_slice hput
    have HBW := hid hbw
    have hbz := hbw.size
    have HPUT := hid hput
    clear hput
    have hn9 : n ≤ 1073741824 := by omega
    by_cases hlt : k < len
    · have hkl : k < l.length := by rw [hll.out]; exact hlt
      have hk1 : (k : Int) < len := by omega
      obtain ⟨b, off, rfl, hb, c0, c1, c2, hv⟩ := HST.out.below hbw k hkl
      have HNX := hid (fun h => (expGo_next hkl limit out h))
      have HBD := hid (fun h => (expGo_bad hkl limit out h))
      obtain ⟨x0, x1, x2, hx⟩ : ∃ x0 x1 x2, l[k] = ⟨x0, x1, x2⟩ := ⟨_, _, _, rfl⟩
      rw [hx] at c0 c1 c2 hv HNX HBD
      rw [HN.out] at HNX HBD
      simp only at c0 c1 c2
      have hv : x0 < 256 := hv
      have HB := hid (fun W => may_any x0 x1 x2 W)
      have HTE := hid (show tokE ⟨x0, x1, x2⟩ n limit = if isB ⟨x0, x1, x2⟩ then (if limit - n < 1 then 11 else 0) else if isM ⟨x0, x1, x2⟩ then (if (n : Int) < x2 then 3 else if limit - n < x1 then 11 else 0) else 1 from rfl)
      have HW0 := hid (Has.new wr 29 #[.int .u8 x0, .int .i64 x1, .int .i64 x2])
      have hB0 : Bw wr (wr.alloc (.cells #[.int .u8 x0, .int .i64 x1, .int .i64 x2] 29)) := (Bw.refl wr).alloc _
      have HBW0 := hid hB0
      clear hx hkl hbw hB0
      cases hib : isB ⟨x0, x1, x2⟩ with
      | true =>
        have hok : tokOk ⟨x0, x1, x2⟩ = true := by simp [tokOk, hib]
        rw [hok] at HB
        rw [hib] at HTE
        obtain ⟨q1, q2⟩ := isB_iff.1 hib
        simp only at q1 q2
        subst q1 q2
        have htx : tokX ⟨x0, 0, 0⟩ out = out ++ [UInt8.ofNat x0] := by unfold tokX; rw [hib]; rfl
        simp only [if_true] at HTE
        have hmx0 : max (1 : Int) 0 = 1 := by decide
        clear hib hok
        by_cases hlm : limit - n < 1
        · have hE : tokE ⟨x0, 0, 0⟩ n limit = 11 := HTE.out.trans (if_pos hlm)
          have HR := hid (exp_bad HLM.out (HG.out.trans ((HBD.out (by rw [hE]; decide)).trans (by rw [hE]))))
          clear hE HNX HBD HTE htx
          go_wp2_with fail
          refine (HB.out _).mono ?_
          rintro e w2 ⟨rfl, hw2⟩
          have HD := hid (hw2.has HW0.out)
          have HB2 := hid (HBW.out.trans (HBW0.out.trans hw2))
          have d0 : w2.cell? ⟨wr.heap.size, 0, none⟩ = some (.int .u8 x0) := HD.out.cell 0
          have d1 : w2.cell? ⟨wr.heap.size, 1, none⟩ = some (.int .i64 0) := HD.out.cell 1
          have d2 : w2.cell? ⟨wr.heap.size, 2, none⟩ = some (.int .i64 0) := HD.out.cell 2
          clear hw2
          go_wp2
          go_returns
          exact ⟨by rw [HR.out.1, HR.out.2]; rfl, HB2.out⟩
        · have hE : tokE ⟨x0, 0, 0⟩ n limit = 0 := HTE.out.trans (if_neg hlm)
          have HX := hid (HG.out.trans (HNX.out hE))
          rw [htx] at HX
          have hlm2 : (n : Int) + 1 ≤ limit := by omega
          have hu8 : ((UInt8.ofNat x0).toNat : Nat) = x0 := by simp [Nat.mod_eq_of_lt hv]
          have HU := hid hu8
          clear hE HNX HBD HTE htx hu8
          go_wp2_with fail
          refine (HB.out _).mono ?_
          rintro e w3 ⟨rfl, hw3⟩
          have HD3 := hid (hw3.has HW0.out)
          have HB3 := hid (HBW0.out.trans hw3)
          have d0 : w3.cell? ⟨wr.heap.size, 0, none⟩ = some (.int .u8 x0) := HD3.out.cell 0
          have d1 : w3.cell? ⟨wr.heap.size, 1, none⟩ = some (.int .i64 0) := HD3.out.cell 1
          have d2 : w3.cell? ⟨wr.heap.size, 2, none⟩ = some (.int .i64 0) := HD3.out.cell 2
          have hz3 := HB3.out.size
          have HPR := hid (HB3.out.own HPUT.out)
          clear hw3
          go_wp2_with (at_builtin; refine wpList_append_own_at _ rfl (.tmp 49) (.tmp 52) 41 rfl w.heap.size 5 i0 (.int .u8 0) 1 1 Tryz.underlying41 hinf hz0 hz1 hz2 rfl (by decide) (.slice vo n vc) n (bcs out) rfl (own_keep HPR.out (fun b hb => Below.heap_alloc _ _ _ (own_lt HPR.out hb))) ⟨w3.heap.size, 0, none⟩ 1 1 [.int .u8 x0] rfl rfl (cell_one_new _ _ _) (by intro u hu; simp at hu; rw [hu]; rfl) (by unfold maxLen; omega) (by omega) (by simp only [World.size_alloc]; omega) ?_; intro v' w5 hown5 hgrow5 _ _; obtain ⟨vo5, vc5, rfl⟩ := own_slice hown5; have HG5 := hid hgrow5; have HO5 := hid hown5; clear hown5 hgrow5)
          refine ⟨⟨k + 1, n + 1, _, by omega, by go_num, by rw [bcs_snoc, HU.out]; exact HO5.out, hid (by rw [List.length_append, HN.out]; rfl), by omega, HX, Below.trans (HBW.out.trans (HB3.out.alloc _)) (own_grown (by simp only [World.size_alloc]; omega) (fun b hb => own_ge HPR.out hb) HG5.out)⟩, by simp [intOf]; omega⟩
      | false =>
        rw [hib] at HTE
        simp only [Bool.false_eq_true, if_false] at HTE
        cases him : isM ⟨x0, x1, x2⟩ with
        | false =>
          have hok : tokOk ⟨x0, x1, x2⟩ = false := by simp [tokOk, hib, him]
          rw [hok] at HB
          rw [him] at HTE
          simp only [Bool.false_eq_true, if_false] at HTE
          have hE := HTE.out
          have HR := hid (exp_bad HLM.out (HG.out.trans ((HBD.out (by rw [hE]; decide)).trans (by rw [hE]))))
          clear hE HNX HBD HTE hib him hok
          go_wp2_with fail
          refine (HB.out _).mono ?_
          rintro e w2 ⟨rfl, hw2⟩
          have HB2 := hid (HBW.out.trans (HBW0.out.trans hw2))
          clear hw2
          go_wp2
          go_returns
          exact ⟨by rw [HR.out.1, HR.out.2]; rfl, HB2.out⟩
        | true =>
          have hok : tokOk ⟨x0, x1, x2⟩ = true := by simp [tokOk, him]
          rw [hok] at HB
          rw [him] at HTE
          simp only [if_true] at HTE
          obtain ⟨b1, b2, b3, b4, -⟩ := isM_iff.1 him
          simp only at b1 b2 b3 b4
          obtain ⟨m, rfl⟩ := Int.eq_ofNat_of_zero_le (show 0 ≤ x1 by omega)
          obtain ⟨d, rfl⟩ := Int.eq_ofNat_of_zero_le (show 0 ≤ x2 by omega)
          have htx : tokX ⟨x0, m, d⟩ out = rep out d m := by unfold tokX; rw [hib]; rfl
          have hmx : max (1 : Int) m = m := by omega
          have td : ((d : Int) == 0) = false := by simp; omega
          clear hib him hok
          by_cases hdn' : (n : Int) < d
          · have hE : tokE ⟨x0, m, d⟩ n limit = 3 := HTE.out.trans (if_pos hdn')
            have HR := hid (exp_bad HLM.out (HG.out.trans ((HBD.out (by rw [hE]; decide)).trans (by rw [hE]))))
            clear hE HNX HBD HTE htx
            go_wp2_with fail
            refine (HB.out _).mono ?_
            rintro e w2 ⟨rfl, hw2⟩
            have HD := hid (hw2.has HW0.out)
            have HB2 := hid (HBW.out.trans (HBW0.out.trans hw2))
            have d2 : w2.cell? ⟨wr.heap.size, 2, none⟩ = some (.int .i64 d) := HD.out.cell 2
            clear hw2
            go_wp2
            go_returns
            exact ⟨by rw [HR.out.1, HR.out.2]; rfl, HB2.out⟩
          · by_cases hml' : limit - n < m
            · have hE : tokE ⟨x0, m, d⟩ n limit = 11 := HTE.out.trans ((if_neg hdn').trans (if_pos hml'))
              have HR := hid (exp_bad HLM.out (HG.out.trans ((HBD.out (by rw [hE]; decide)).trans (by rw [hE]))))
              clear hE HNX HBD HTE htx
              go_wp2_with fail
              refine (HB.out _).mono ?_
              rintro e w2 ⟨rfl, hw2⟩
              have HD := hid (hw2.has HW0.out)
              have HB2 := hid (HBW.out.trans (HBW0.out.trans hw2))
              have d1 : w2.cell? ⟨wr.heap.size, 1, none⟩ = some (.int .i64 m) := HD.out.cell 1
              have d2 : w2.cell? ⟨wr.heap.size, 2, none⟩ = some (.int .i64 d) := HD.out.cell 2
              clear hw2
              go_wp2
              go_returns
              exact ⟨by rw [HR.out.1, HR.out.2]; rfl, HB2.out⟩
            · have hE : tokE ⟨x0, m, d⟩ n limit = 0 := HTE.out.trans ((if_neg hdn').trans (if_neg hml'))
              have HX := hid (HG.out.trans (HNX.out hE))
              rw [htx] at HX
              have hdn : d ≤ n := by omega
              have hml : (n : Int) + m ≤ limit := by omega
              have tnd : decide (n < d) = false := by simp; omega
              have HLEN := hid (fun j => (rep_len out d j).trans (by rw [HN.out]))
              have HREP := hid (fun j => rep_byte out d j (by omega) (by rw [HN.out]; exact hdn))
              clear hE HNX HBD HTE htx
              go_wp2_with fail
              refine (HB.out _).mono ?_
              rintro e w3 ⟨rfl, hw3⟩
              have HD3 := hid (hw3.has HW0.out)
              have HB3 := hid (HBW0.out.trans hw3)
              have d0 : w3.cell? ⟨wr.heap.size, 0, none⟩ = some (.int .u8 x0) := HD3.out.cell 0
              have d1 : w3.cell? ⟨wr.heap.size, 1, none⟩ = some (.int .i64 m) := HD3.out.cell 1
              have d2 : w3.cell? ⟨wr.heap.size, 2, none⟩ = some (.int .i64 d) := HD3.out.cell 2
              have hz3 := HB3.out.size
              have HPR := hid (HB3.out.own HPUT.out)
              clear hw3
              go_wp2
              go_loopw [6, 11] (fun v i wi => ∃ j p : Nat, j ≤ m ∧ Hid (n + j = p) ∧ i = .int .i64 j ∧ wi.ownsRow w.heap.size 5 1 v p (bcs (rep out d j)) ∧ Has wi wr.heap.size 29 #[.int .u8 x0, .int .i64 m, .int .i64 d] ∧ Bw w wi) (fun _ i _ => m - (intOf i).toNat)
              case atStart => exact ⟨0, n, Nat.zero_le _, hid rfl, rfl, HPR.out, HD3.out, HBW.out.trans HB3.out⟩
              case round =>
                rename World => wi
                obtain ⟨j, p, hj, HP, rfl, hown, hdb, hbi⟩ := hrel
                have hp9 : n ≤ p ∧ p ≤ n + m := by have := HP.out; omega
                obtain ⟨hp1, hp2⟩ := hp9
                obtain ⟨vj, vcj, rfl⟩ := own_slice hown
                have HOW := hid hown
                have HDB := hid hdb
                have HBI := hid hbi
                have hzi := hbi.size
                by_cases hjm : j < m
                · obtain ⟨gj, cj, hgj⟩ := own_some hown (by omega)
                  obtain ⟨rfl, rfl⟩ : vj = some ⟨gj, 0, none⟩ ∧ vcj = cj := by simpa using hgj
                  obtain ⟨hjl, hjr⟩ := HREP.out j
                  have hLj := HLEN.out j
                  have cj0 := own_byte (l := rep out d j) hown ((rep out d j).length - d) hjl
                  generalize (rep out d j)[(rep out d j).length - d]'hjl = bb at *
                  rw [hLj] at cj0
                  rw [HP.out] at cj0 hLj
                  obtain ⟨q, hq⟩ : ∃ q, p - d = q := ⟨_, rfl⟩
                  have e1 : ((p : Nat) : Int) - d = (q : Nat) := by omega
                  have hqp : q < p := by omega
                  have hd2 : wi.cell? ⟨wr.heap.size, 2, none⟩ = some (.int .i64 d) := hdb.cell 2
                  have hjm1 : (j : Int) < m := by omega
                  have HJR := hid hjr
                  have hnj : p ≤ 1073741824 := by have := HP.out; omega
                  have hdp : d ≤ p := by omega
                  rw [hq] at cj0
                  clear hown hdb hbi hgj hjr hLj hjl hq
                  go_wp2_with (at_builtin; refine wpList_append_own_at _ rfl (.tmp 59) (.tmp 68) 41 rfl w.heap.size 5 i0 (.int .u8 0) 1 1 Tryz.underlying41 hinf hz0 hz1 hz2 rfl (by decide) (.slice (some ⟨gj, 0, none⟩) p vcj) p (bcs (rep out d j)) rfl (own_keep HOW.out (fun b hb => Below.heap_alloc _ _ _ (own_lt HOW.out hb))) ⟨wi.heap.size, 0, none⟩ 1 1 [.int .u8 bb.toNat] rfl rfl (cell_one_new _ _ _) (by intro u hu; simp at hu; rw [hu]; rfl) (by unfold maxLen; omega) (by omega) (by simp only [World.size_alloc]; omega) ?_; intro v' w5 hown5 hgrow5 _ _; obtain ⟨vo5, vc5, rfl⟩ := own_slice hown5; have HG5 := hid hgrow5; have HO5 := hid hown5; have HD5 := hid (has_grown (HDB.out.alloc _) hgrow5 (own_ne_has HOW.out HDB.out (by decide))); clear hown5 hgrow5)
                  refine ⟨⟨j + 1, p + 1, by omega, hid (by have := HP.out; omega), by go_num, ?_, HD5.out, Below.trans (HBI.out.alloc _) (own_grown (by simp only [World.size_alloc]; omega) (fun b hb => own_ge HOW.out hb) HG5.out)⟩, by simp [intOf]; omega⟩
                  rw [HJR.out, bcs_snoc]
                  exact HO5.out
                · obtain rfl : j = m := by omega
                  go_wp2
                  refine ⟨⟨k + 1, p, rep out d j, by omega, by go_num, HOW.out, hid ((HLEN.out j).trans HP.out), by have := HP.out; omega, HX, HBI.out⟩, by simp [intOf]; omega⟩
    · obtain rfl : k = len := by omega
      have HR := hid (exp_end HLM.out (HG.out.trans (expGo_end (by rw [hll.out]; exact Nat.le_refl _) limit out)))
      have hcv := conv_bytes HN.out HPUT.out
      go_wp2
      go_returns
      exact ⟨by rw [HR.out.1, HR.out.2]; rfl, HBW.out⟩
set_option maxRecDepth 100000 in
theorem rexp_no (a : Option Addr) (len cap : Nat) (l : List TokR) (limit : Int) (h : lmB limit = false) (w : World) :
    Calls Tryz.prog 12 #[.slice a len cap, .int .i64 limit] w (ExpPost l limit w) := by
  have HR := hid (show expS l limit = ⟨#[]⟩ ∧ expE l limit = 1 by unfold expS expE; rw [h]; exact ⟨rfl, rfl⟩)
  have h2 : limit < 0 ∨ (0 ≤ limit ∧ 1073741824 < limit) := by
    have := of_decide_eq_false h
    omega
  rcases h2 with h2 | ⟨h2, h3⟩
  all_goals
    go_enter Tryz.func12, Tryz.ntmps12
    go_wp2
    go_returns
    exact ⟨by rw [HR.out.1, HR.out.2]; rfl, Bw.refl w⟩
theorem rexp_any (a : Option Addr) (len cap : Nat) (hlen : len ≤ 1000000) (l : List TokR) (hll : Hid (l.length = len)) (limit : Int) (w : World) (hst : ToksAt w a l) :
    Calls Tryz.prog 12 #[.slice a len cap, .int .i64 limit] w (ExpPost l limit w) := by
  cases h : lmB limit with
  | false => exact rexp_no a len cap l limit h w
  | true =>
    have := of_decide_eq_true h
    exact rexp_ok a len cap hlen l hll limit this.1 this.2 w hst
end Go.Proofs.YtkmbgkcpohchhaaGreatDoor
