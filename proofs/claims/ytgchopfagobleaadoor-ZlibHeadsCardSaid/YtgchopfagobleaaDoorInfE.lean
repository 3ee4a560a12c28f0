/- A length and its distance: bytes of the output again (contract of the method). -/
import Derived.Test.YtgchopfagobleaaDoorInfC
import Derived.Test.YtgchopfagobleaaDoorInfD
import Derived.Test.YtgchopfagobleaaDoorInfR
import Derived.Deep.AppendLies
import Derived.Deep.RegionLaw
namespace Go.Proofs.YtgchopfagobleaaDoor
open Go.RowKit Go.Conc
set_option linter.unusedVariables false
theorem rep_byte (out : List UInt8) (d j : Nat) (h1 : 1 ≤ d) (h2 : d ≤ out.length) : ∃ h : (rep out d j).length - d < (rep out d j).length, rep out d (j + 1) = rep out d j ++ [(rep out d j)[(rep out d j).length - d]'h] := by
  have hl := rep_len out d j
  refine ⟨by omega, ?_⟩
  rw [rep, rep1, List.getD_eq_getElem?_getD, List.getElem?_eq_getElem (by omega)]
  rfl
theorem match_eq (s : ByteArray) (lim : Nat) (last : Bool) (lt dt : List Int) (x k : Nat) (out : List UInt8) : stMatch s lim last lt dt x k out =
  if 286 ≤ x then .bad 3
  else num s k (lenR (x - 257)).2 fun v k2 => sym1 s dt k2 fun y k3 =>
    if 30 ≤ y then .bad 3
    else num s k3 (distR y).2 fun u k4 =>
      if out.length < (distR y).1 + u then .bad 3
      else if lim < out.length + ((lenR (x - 257)).1 + v) then .bad 11
      else .go ⟨.sym last lt dt, k4, rep out ((distR y).1 + u) ((lenR (x - 257)).1 + v)⟩ := rfl
section
variable {B : Nat} {w : World} {fb g : Nat} {s : ByteArray} {k : Nat} {out : List UInt8} {lim : Nat} {v : Value} {pl pd : Option Addr}
set_option maxRecDepth 100000 in
set_option maxHeartbeats 4000000 in
theorem repeat_any (hs : s.size ≤ 281474976710656) (hl : lim ≤ 1073741824) (last : Bool) (lt dt : List Int) (x : Nat) (hx : 257 ≤ x) (hx9 : x ≤ 320) (D tb : Nat) (hc : IsCode dt) (hT : TabOf w D tb dt) (h : Inf B w fb g s k out lim v pl pd) :
    Calls Tryd.prog 58 #[.pointer (some ⟨fb, 0, none⟩), .int .i64 x, .pointer (some ⟨tb, 0, none⟩)] w (Did B fb g s lim pl pd (stMatch s lim last lt dt x k out) w) := by
  obtain ⟨i0, hinf, hz0, hz1, hz2⟩ := info_parts byteInfo
  have HX := hid (match_eq s lim last lt dt x k out)
  have HI := hid h
  have HT := hid hT
  clear h hT
  by_cases h0 : 286 ≤ x
  · have HX := hid (HX.out.trans (if_pos h0))
    have t0 : decide ((x : Int) < 286) = false := decide_eq_false (by omega)
    go_enter Tryd.func58, Tryd.ntmps58
    go_wp2_with fail
    refine (demand_bad _).mono ?_
    rintro e w1 ⟨rfl, rfl⟩
    exact ⟨rfl, Did.bad HX.out (KT.refl _)⟩
  · have HX := hid (HX.out.trans (if_neg h0))
    have t0 : decide ((x : Int) < 286) = true := decide_eq_true (by omega)
    obtain ⟨i, hi⟩ : ∃ i, x - 257 = i := ⟨_, rfl⟩
    rw [hi] at HX
    have hi29 : i < 29 := by omega
    obtain ⟨hl1, hl2⟩ := lenR_le i
    obtain ⟨c0, c1⟩ := HI.out.tabs.lens i hi29
    obtain ⟨l1, hl1e⟩ : ∃ l1, (lenR i).1 = l1 := ⟨_, rfl⟩
    obtain ⟨l2, hl2e⟩ : ∃ l2, (lenR i).2 = l2 := ⟨_, rfl⟩
    rw [hl1e] at c0 hl1
    rw [hl2e] at c1 hl2
    rw [hl1e, hl2e] at HX
    have i1 : (0 : Int) ≤ (x : Int) - 256 - 1 := by omega
    have i2 : (x : Int) - 256 - 1 < 29 := by omega
    have i3 : ((x : Int) - 256 - 1).toNat = i := by omega
    have hx285 : x ≤ 285 := by omega
    clear hl1e hl2e hi h0
    go_enter Tryd.func58, Tryd.ntmps58
    go_wp2_with fail
    refine (demand_ok _).mono ?_
    rintro e w1 ⟨rfl, rfl⟩
    go_wp2_with fail
    clear c0 c1 i1 i2 i3 t0
    by_cases h1 : k + l2 ≤ 8 * s.size
    · have HX := hid (HX.out.trans (num_ok h1))
      refine (row_ok hs l1 l2 (by omega) (by omega) h1 HI.out).mono ?_
      rintro e w2 ⟨rfl, hi2, hk2⟩
      have HI2 := hid hi2
      have HK2 := hid hk2
      have HT2 := hid (hk2.tab HT.out (by decide) (by decide))
      clear hi2 hk2
      have hb1 : bv s k l2 < 32 := Nat.lt_of_lt_of_le (bv_lt s k l2) (Nat.pow_le_pow_right (by decide) hl2 : 2 ^ l2 ≤ 2 ^ 5)
      obtain ⟨n, hn⟩ : ∃ n, l1 + bv s k l2 = n := ⟨_, rfl⟩
      have HX : Hid (stMatch s lim last lt dt x k out = sym1 s dt (k + l2) fun y k3 => if 30 ≤ y then .bad 3 else num s k3 (distR y).2 fun u k4 => if out.length < (distR y).1 + u then .bad 3 else if lim < out.length + n then .bad 11 else .go ⟨.sym last lt dt, k4, rep out ((distR y).1 + u) n⟩) := hid (by rw [HX.out, ← hn])
      rw [hn]
      have hn9 : n ≤ 300 := by omega
      clear hn hb1 h1
      generalize k + l2 = k2 at *
      go_wp2_with fail
      by_cases h2 : nextE dt s k2 = 0
      · have HX := hid (HX.out.trans (sym1_ok h2))
        have hy9 := nextV_lt h2
        have hyl := hc.few
        refine (symbol_ok hs D tb dt hc HT2.out h2 HI2.out).mono ?_
        rintro e w3 ⟨rfl, hi3, hk3⟩
        have HI3 := hid hi3
        have HK3 := hid (HK2.out.trans hk3)
        clear hi3 hk3 h2
        generalize nextV dt s k2 = y at *
        generalize nextK dt s k2 = k3 at *
        by_cases h3 : 30 ≤ y
        · have HX := hid (HX.out.trans (if_pos h3))
          have t0 : decide ((y : Int) < 30) = false := decide_eq_false (by omega)
          go_wp2_with fail
          refine (demand_bad _).mono ?_
          rintro e w4 ⟨rfl, rfl⟩
          exact ⟨rfl, Did.bad HX.out HK3.out⟩
        · have HX := hid (HX.out.trans (if_neg h3))
          have t0 : decide ((y : Int) < 30) = true := decide_eq_true (by omega)
          have hy30 : (y : Int) < 30 := by omega
          obtain ⟨hd1, hd2⟩ := distR_le y
          have hd0 := distR_pos y h3
          obtain ⟨c0, c1⟩ := HI3.out.tabs.dists y (by omega)
          obtain ⟨d1, hd1e⟩ : ∃ d1, (distR y).1 = d1 := ⟨_, rfl⟩
          obtain ⟨d2, hd2e⟩ : ∃ d2, (distR y).2 = d2 := ⟨_, rfl⟩
          rw [hd1e] at c0 hd1 hd0
          rw [hd2e] at c1 hd2
          rw [hd1e, hd2e] at HX
          clear hd1e hd2e h3
          go_wp2_with fail
          refine (demand_ok _).mono ?_
          rintro e w4 ⟨rfl, rfl⟩
          go_wp2_with fail
          clear c0 c1 t0 hy30
          by_cases h4 : k3 + d2 ≤ 8 * s.size
          · have HX := hid (HX.out.trans (num_ok h4))
            refine (row_ok hs d1 d2 (by omega) (by omega) h4 HI3.out).mono ?_
            rintro e w5 ⟨rfl, hi5, hk5⟩
            have HI5 := hid hi5
            have HK5 := hid (HK3.out.trans hk5)
            clear hi5 hk5
            have hb2 : bv s k3 d2 < 8192 := Nat.lt_of_lt_of_le (bv_lt s k3 d2) (Nat.pow_le_pow_right (by decide) hd2 : 2 ^ d2 ≤ 2 ^ 13)
            obtain ⟨d, hd⟩ : ∃ d, d1 + bv s k3 d2 = d := ⟨_, rfl⟩
            have HX : Hid (stMatch s lim last lt dt x k out = if out.length < d then .bad 3 else if lim < out.length + n then .bad 11 else .go ⟨.sym last lt dt, k3 + d2, rep out d n⟩) := hid (by rw [HX.out, ← hd])
            rw [hd]
            have hd9 : d ≤ 40000 := by omega
            have hd0 : 1 ≤ d := by omega
            clear hd hb2 h4
            generalize k3 + d2 = k4 at *
            obtain ⟨ol, hol⟩ : ∃ ol, out.length = ol := ⟨_, rfl⟩
            have hown := HI5.out.own
            have hhas := HI5.out.has
            have hfew := HI5.out.few
            rw [hol] at HX hown hfew
            obtain ⟨vo, vc, rfl⟩ := own_slice hown
            have c1 : w5.cell? ⟨fb, 1, none⟩ = some (.slice vo ol vc) := hhas.cell 1
            have HOL := hid hol
            clear hown hol hhas
            by_cases h5 : ol < d
            · have HX := hid (HX.out.trans (if_pos h5))
              have t0 : decide (d ≤ ol) = false := decide_eq_false (by omega)
              have t1 : decide ((d : Int) ≤ ol) = false := decide_eq_false (by omega)
              go_wp2_with fail
              refine (demand_bad _).mono ?_
              rintro e w6 ⟨rfl, rfl⟩
              exact ⟨rfl, Did.bad HX.out HK5.out⟩
            · have HX := hid (HX.out.trans (if_neg h5))
              have t0 : decide (d ≤ ol) = true := decide_eq_true (by omega)
              have t1 : decide ((d : Int) ≤ ol) = true := decide_eq_true (by omega)
              go_wp2_with fail
              refine (demand_ok _).mono ?_
              rintro e w6 ⟨rfl, rfl⟩
              clear t0 t1 c1
              go_wp2_with fail
              by_cases h6 : lim < ol + n
              · have HX := hid (HX.out.trans (if_pos h6))
                refine (room_bad n (by omega) hl (by rw [HOL.out]; exact h6) HI5.out).mono ?_
                rintro e w7 ⟨rfl, hb7⟩
                exact ⟨rfl, Did.bad HX.out (HK5.out.trans (KT.of_bw hb7))⟩
              · have HX := hid (HX.out.trans (if_neg h6))
                refine (room_ok n (by omega) hl (by rw [HOL.out]; exact h6) HI5.out).mono ?_
                rintro e w7 ⟨rfl, hb7⟩
                have HI7 := hid (HI5.out.bw hb7)
                have HK7 := hid (HK5.out.trans (KT.of_bw hb7))
                clear hb7
                have HLEN := hid (fun j => (rep_len out d j).trans (by rw [HOL.out]))
                have HREP := hid (fun j => rep_byte out d j (by omega) (by rw [HOL.out]; omega))
                go_wp2
                go_loopw [42] (fun i wi => ∃ (j p : Nat) (v' : Value), j ≤ n ∧ Hid (ol + j = p) ∧ i = .int .i64 j ∧ Inf B wi fb g s k4 (rep out d j) lim v' pl pd ∧ KT TI B w1 wi) (fun i _ => n - (intOf i).toNat)
                case atStart => exact ⟨0, ol, _, Nat.zero_le _, hid rfl, rfl, HI7.out, HK7.out⟩
                case round =>
                  rename World => wi
                  obtain ⟨j, p, v', hj, HP, rfl, hi, hk⟩ := hrel
                  have HII := hid hi
                  have HKK := hid hk
                  clear hi hk
                  by_cases hjn : j < n
                  · have hown := HII.out.own
                    have hhas := HII.out.has
                    have hfew := HII.out.few
                    have hlj : (rep out d j).length = p := (HLEN.out j).trans HP.out
                    have hp9 : ol ≤ p ∧ p ≤ ol + n := by have := HP.out; omega
                    obtain ⟨hp1, hp2⟩ := hp9
                    obtain ⟨hjl, hjr⟩ := HREP.out j
                    have cj0 := fun (g cap : Nat) (hv : v' = .slice (some ⟨g, 0, none⟩) p cap) => own_byte (w := wi) (B := B) (g := g) (n := p) (cap := cap) (l := rep out d j) (by rw [← hv]; rw [hlj] at hown; exact hown) ((rep out d j).length - d) hjl
                    rw [hlj] at hown hfew
                    obtain ⟨gj, cj, rfl⟩ := own_some hown (by omega)
                    have cj0 := cj0 gj cj rfl
                    generalize (rep out d j)[(rep out d j).length - d]'hjl = bb at *
                    rw [hlj] at cj0
                    obtain ⟨q, hq⟩ : ∃ q, p - d = q := ⟨_, rfl⟩
                    have e1 : ((p : Nat) : Int) - d = (q : Nat) := by omega
                    have hqp : q < p := by omega
                    rw [hq] at cj0
                    have c1 : wi.cell? ⟨fb, 1, none⟩ = some (.slice (some ⟨gj, 0, none⟩) p cj) := hhas.cell 1
                    have hjn1 : (j : Int) < n := by omega
                    have HJR := hid hjr
                    have hp30 : p ≤ 1073741824 := by omega
                    have hdp : d ≤ p := by omega
                    clear hown hhas hjr hlj hjl hq
                    have b1 : (0 : Int) ≤ q := by omega
                    have b2 : (q : Int) < p := by omega
                    have b3 : (q : Int).toNat = q := rfl
                    have b4 : IntKind.i64.wrap (q : Int) = (q : Int) := IntWalk.i64_in _ (by omega)
                    go_wp2_with fail
                    have hzi : wi.heap.size = wi.heap.size := rfl
                    have HOW := hid (show wi.ownsRow B 5 1 (.slice (some ⟨gj, 0, none⟩) p cj) p (bcs (rep out d j)) by have := HII.out.own; rw [HLEN.out j, HP.out] at this; exact this)
                    have hBz : B ≤ wi.heap.size := by have h1 := HII.out.gb; have h2 := Has.lt HII.out.rd; omega
                    have HWA := hid (show Bw wi (wi.alloc (.cells #[.int .u8 (bb.toNat : Nat)] 5)).drew from ((Bw.refl wi).alloc _).drewN 1)
                    have HWF := hid (show ∀ w5, (wi.alloc (.cells #[.int .u8 (bb.toNat : Nat)] 5)).drew.grownBy w5 (some gj) → w5.frozen? ⟨fb, 1, none⟩ = false from fun w5 hg => (((HII.out.bw HWA.out).grown hg).1).frozen 1)
                    have d1 : wi.drew.cell? ⟨fb, 1, none⟩ = some (.slice (some ⟨gj, 0, none⟩) p cj) := c1
                    have d2 : wi.drew.cell? ⟨gj, q, none⟩ = some (.int .u8 (bb.toNat : Nat)) := cj0
                    have d3 := HWA.out.cell c1
                    clear c1 cj0 hzi
                    go_region_law
                      (first
                        | (refine step_append_lies _ (by rfl) (.tmp 48) (.tmp 62) 27 (by rfl) B 5 i0 (.int .u8 0) 1 1 Tryd.underlying27 hinf hz0 hz1 hz2 (by rfl) (by decide) (.slice (some ⟨gj, 0, none⟩) p cj) p (bcs (rep out d j)) (by rfl) (HWA.out.own HOW.out) ⟨wi.heap.size, 0, none⟩ 1 1 [.int .u8 (bb.toNat : Nat)] (by rfl) rfl (cell_one_new _ _ _) (by intro u hu; simp at hu; rw [hu]; rfl) (by omega) (by unfold maxLen; omega) (by omega) (by simp only [World.size_alloc, World.drew]; omega) (wi.heap.size + 1) (by simp) ?_; intro g5 cp5 w5 hown5 hgrow5 hat5 hlt5; have HO5 := hid hown5; have HG5 := hid hgrow5; have z5 := HWF.out _ hgrow5; have y5 := ((HII.out.bw HWA.out).grown hgrow5).1.cell 1; clear hown5 hgrow5 hat5 hlt5))
                    all_goals go_wp2
                    all_goals have hl1 : (rep out d (j + 1)).length = p + 1 := by rw [HLEN.out (j + 1)]; have := HP.out; omega
                    all_goals have hap := (HII.out.bw HWA.out).app HG5.out (out' := rep out d (j + 1)) (v' := .slice (some ⟨g5, 0, none⟩) (p + 1) cp5) (by rw [hl1, HJR.out, bcs_snoc]; exact HO5.out) (by rw [hl1]; have := HP.out; omega)
                    all_goals exact ⟨⟨j + 1, p + 1, _, by omega, hid (by have := HP.out; omega), by go_num, hap.1, HKK.out.trans ((KT.of_bw HWA.out).trans hap.2)⟩, by simp [intOf]; omega⟩
                  · obtain rfl : j = n := by omega
                    go_wp2
                    go_returns
                    exact Did.st HX.out HKK.out HII.out
          · have HX := hid (HX.out.trans (num_bad h4))
            refine (row_bad hs d1 d2 (by omega) (by omega) h4 HI3.out).mono ?_
            rintro e w5 ⟨rfl, hk5⟩
            exact ⟨rfl, Did.bad HX.out (HK3.out.trans hk5)⟩
      · have HX := hid (HX.out.trans (sym1_bad h2))
        refine (symbol_bad hs D tb dt hc HT2.out h2 HI2.out).mono ?_
        rintro e w3 ⟨rfl, hk3⟩
        exact ⟨rfl, Did.bad HX.out (HK2.out.trans hk3)⟩
    · have HX := hid (HX.out.trans (num_bad h1))
      refine (row_bad hs l1 l2 (by omega) (by omega) h1 HI.out).mono ?_
      rintro e w2 ⟨rfl, hk2⟩
      exact ⟨rfl, Did.bad HX.out hk2⟩
end
end Go.Proofs.YtgchopfagobleaaDoor
