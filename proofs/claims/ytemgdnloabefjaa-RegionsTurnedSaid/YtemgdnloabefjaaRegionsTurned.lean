/- RegionsTurned returns true for every list of spans, and changes nothing that was there; no condition. -/
import Derived.Test.YtemgdnloabefjaaRegY
import Derived.Test.YtemgdnloabefjaaRegPn
import Derived.Test.YtemgdnloabefjaaSpV
import Derived.Test.YtemgdnloabefjaaSpE
import Derived.StillTailTactics
import Derived.SizedLaws
import Derived.ProofKit
import Derived.OpenShut
import Derived.ShutString
import Derived.ChangeOld
namespace Go.Proofs.Ytemgdnloabefjaa.regionsTurned
open Go.RowKit Go.ChangeShapes Go.WideShapes Go.ChangeAt
set_option linter.unusedVariables false
/-- Two sets of the call's own, side by side. -/
def Duo (w0 w : World) (g : Nat) (L : List PartR) (g2 : Nat) (M : List PartR) : Prop := ∃ P Q : Nat → Prop, Sp.SetP P w g L ∧ Sp.SetP Q w g2 M ∧ (∀ i, P i → ¬ Q i) ∧ (∀ i, P i → w0.heap.size ≤ i) ∧ (∀ i, Q i → w0.heap.size ≤ i) ∧ Bw w0 w
theorem Duo.low {w0 w : World} {g g2 : Nat} {L M : List PartR} (h : Duo w0 w g L g2 M) : Bw w0 w := by
  obtain ⟨P, Q, _, _, _, _, _, h⟩ := h
  exact h
theorem Duo.swap {w0 w : World} {g g2 : Nat} {L M : List PartR} (h : Duo w0 w g L g2 M) : Duo w0 w g2 M g L := by
  obtain ⟨P, Q, h1, h2, h3, h4, h5, h6⟩ := h
  exact ⟨Q, P, h2, h1, fun i hq hp => h3 i hp hq, h5, h4, h6⟩
theorem Duo.bw {w0 w w' : World} {g g2 : Nat} {L M : List PartR} (h : Duo w0 w g L g2 M) (hb : Bw w w') : Duo w0 w' g L g2 M := by
  obtain ⟨P, Q, h1, h2, h3, h4, h5, h6⟩ := h
  exact ⟨P, Q, h1.bw hb, h2.bw hb, h3, h4, h5, h6.trans hb⟩
theorem Duo.at1 {w0 w : World} {g g2 : Nat} {L M : List PartR} (h : Duo w0 w g L g2 M) : Sp.SetAt w g L := by
  obtain ⟨P, Q, h1, _⟩ := h
  exact h1.at
theorem duo_add (w0 : World) (g g2 : Nat) (L M : List PartR) (hR : Rising L) (h9 : L.length ≤ 1000) (lo hi : Int) (w : World) (hs : Duo w0 w g L g2 M) :
    Calls Try.prog 29 #[.pointer (some ⟨g, 0, none⟩), .int .i64 lo, .int .i64 hi, .agg #[.int .i64 lo, .int .i64 hi]] w fun e w' => e = .returned (.int .i64 (addE L lo hi)) ∧ Duo w0 w' g (addL L lo hi 0) g2 M := by
  obtain ⟨P, Q, h1, h2, h3, h4, h5, h6⟩ := hs
  have h7 : Sp.SetP (fun i => Q i ∧ i < w.heap.size) w g2 M := h2.mono fun i hi hq => ⟨hq, hi⟩
  exact (Sp.add_any P g L hR h9 lo hi w h1).mono fun e w' ⟨a, b⟩ => ⟨a, ⟨_, _, b.1, h7.keep b.2 fun i hq hp => h3 i hp hq.1, fun i hp hq => hp.elim (fun hp => h3 i hp hq.1) fun hp => by omega, fun i hp => hp.elim (h4 i) fun hp => Nat.le_trans h6.size hp, fun i hq => h5 i hq.1, Below.trans h6 (b.2.below h6.size h4)⟩⟩
theorem Duo.start {w w1 w2 : World} {g g2 : Nat} (h1 : Has w1 g 94 #[.slice none 0 0]) (hg : w.heap.size ≤ g) (hb1 : Bw w w1) (h2 : Has w2 g2 94 #[.slice none 0 0]) (hg2 : w1.heap.size ≤ g2) (hb2 : Bw w1 w2) : Duo w w2 g [] g2 [] :=
  ⟨fun i => w.heap.size ≤ i ∧ i < w1.heap.size, fun i => w1.heap.size ≤ i, ⟨_, hb2.has h1, ⟨hg, h1.lt⟩, .inl ⟨rfl, rfl⟩⟩, ⟨_, h2, hg2, .inl ⟨rfl, rfl⟩⟩, fun i hp hq => by omega, fun i hp => hp.1, fun i hq => Nat.le_trans hb1.size hq, hb1.trans hb2⟩
set_option maxRecDepth 100000 in
set_option maxHeartbeats 8000000 in
theorem walkA (a : Option Addr) (len cap : Nat) (hlen : len ≤ 9223372036854775807) (l : List SpR) (hll : Hid (l.length = len)) (hlc : len ≤ cap) (hlen60 : 60 < len) (w : World) (hst : SpansIn w a l) :
    Calls Try.prog 6 #[.slice a len cap] w fun e w' => e = .returned (.bool true) ∧ Bw w w' := by
  have HL := hid live_any
  have HST := hid hst
  have A7 := hid (fun (W : World) => Sp.new_has W)
  have hNl : 60 ≤ l.length := by rw [hll.out]; omega
  have hci : (60 : Int) ≤ cap := by omega
  have hgi : (60 : Int) < len := by omega
  clear hst
  go_enter Try.func6, Try.ntmps6
  go_wp2_with fail
  refine (A7.out _).mono ?_
  rintro e w1 ⟨g, rfl, hh1, hg1, hb1⟩
  go_wp2_with fail
  refine (A7.out _).mono ?_
  rintro e w2 ⟨g2, rfl, hh2, hg2, hb2⟩
  have H1 := hid (Duo.start hh1 hg1 hb1 hh2 hg2 hb2)
  clear hh1 hg1 hb1 hh2 hg2 hb2
  go_wp2_with fail
  go_loopw [5, 6] (fun al i wr => ∃ (k : Nat) (ok : Bool), k ≤ 60 ∧ i = .int .i64 k ∧ al = .bool ok ∧ Hid (∃ L, Rising L ∧ L.length ≤ k ∧ (ok = true → Fore l k L) ∧ Duo w wr g L g2 [])) (fun _ i _ => 60 - (intOf i).toNat)
  case atStart => exact ⟨0, true, Nat.zero_le _, rfl, rfl, hid ⟨[], trivial, Nat.le_refl _, fun _ => fore_zero l, H1.out⟩⟩
  case round =>
    rename World => wr
    obtain ⟨k, ok, hk, rfl, rfl, HB⟩ := hrel
    by_cases hlt : k < 60
    · have hlti : (k : Int) < 60 := by omega
      obtain ⟨L, hR, hLk, hF, hB⟩ := HB.out
      have HFO := hid hF
      have HBB := hid hB
      have hkl : k < l.length := by omega
      have HFS := hid (fun (h : Fore l k L) he => fore_step h hkl he)
      obtain ⟨b, off, rfl, hbl, q0, q1⟩ := HST.out k hkl
      generalize l[k] = q at *
      have c0 := hB.low.cell q0
      have c1 := hB.low.cell q1
      have HAD := hid (fun (W : World) (h : Duo w W g L g2 []) => duo_add w g g2 L [] hR (by omega) q.lo q.hi W h)
      have HNR := hid (addL_rising hR q.lo q.hi 0)
      have HNL := hid (addL_len L q.lo q.hi 0)
      generalize addE L q.lo q.hi = ea at *
      generalize addL L q.lo q.hi 0 = L' at *
      clear hB hR hkl q0 q1 hF HB
      go_wp2_with fail
      refine wp_region_still_tail 15 (by kernel_rfl) (by kernel_rfl) ?_
      simp only [List.take_succ_cons, List.take_zero, List.drop_succ_cons, List.drop_zero]
      repeat still_step
      refine wpStill_nil ?_
      change wpList _ _ _ _ _ wr.drew
      have HB1 := hid (HBB.out.bw ((Bw.refl wr).drewN 1))
      clear c0 c1
      go_wp2_with fail
      refine (HAD.out _ HB1.out).mono ?_
      rintro e w3 ⟨rfl, hB2⟩
      have HB2 := hid hB2
      clear hB2
      cases ok with
      | false =>
        go_wp2
        exact ⟨⟨k + 1, false, by omega, by go_num, rfl, hid ⟨L', HNR.out, Nat.le_trans HNL.out (by omega), (fun h => by cases h), HB2.out⟩⟩, by simp [intOf]; omega⟩
      | true =>
        have HFT := hid (HFO.out rfl)
        clear HFO
        go_wp2
        exact ⟨⟨k + 1, ea == 0, by omega, by go_num, rfl, hid ⟨L', HNR.out, Nat.le_trans HNL.out (by omega), (fun h => HFS.out HFT.out (by simpa using h)), HB2.out⟩⟩, by simp [intOf]; omega⟩
    · obtain rfl : 60 = k := by omega
      obtain ⟨L, hR, hLk, hF, hB⟩ := HB.out
      have HR := hid hR
      have HBB := hid hB
      have HFO := hid hF
      clear hR hB hF HB
      cases ok with
      | false =>
        go_wp2_with fail
        refine (HL.out _).mono ?_
        rintro e w4 ⟨rfl, hb4⟩
        have HB4 := hid (HBB.out.bw hb4)
        clear hb4
        go_wp2
        go_returns
        exact ⟨rfl, HB4.out.low⟩
      | true =>
        have HFR := hid (HFO.out rfl)
        go_wp2_with fail
        have hLN : L.length ≤ 60 := by have := HFR.out.len; omega
        go_loopw [8] (fun i wq => ∃ j : Nat, j ≤ 60 ∧ i = .int .i64 ((j : Int) - 1) ∧ Hid (∃ M, Aft l 60 j M ∧ Duo w wq g L g2 M)) (fun i _ => (intOf i + 1).toNat)
        case atStart => exact ⟨60, Nat.le_refl _, rfl, hid ⟨[], aft_zero l 60, HBB.out⟩⟩
        case round =>
          rename World => wq
          obtain ⟨j, hj, rfl, HM⟩ := hrel
          rcases Nat.eq_zero_or_pos j with rfl | hpos
          · have e0 : ((0 : Nat) : Int) - 1 = -1 := rfl
            rw [e0]
            clear e0
            obtain ⟨M, hA, hD⟩ := HM.out
            obtain rfl := fore_aft HFR.out hA
            have HD := hid hD
            clear hA hD HM
            go_wp2_with fail
            go_loopw [9] (fun i wz => ∃ m : Nat, m ≤ 60 ∧ i = .int .i64 m ∧ Bw wq wz) (fun i _ => 60 - (intOf i).toNat)
            case atStart => exact ⟨0, Nat.zero_le _, rfl, Bw.refl wq⟩
            case round =>
              rename World => wz
              obtain ⟨m, hm, rfl, hbz⟩ := hrel
              have HDZ := hid (HD.out.bw hbz)
              have HBZ := hid hbz
              clear hbz
              by_cases hlt3 : m < 60
              · have hlt3i : (m : Int) < 60 := by omega
                have hml : m < M.length := by rw [HFR.out.len]; exact hlt3
                have HA1 := hid (fun (W : World) (h : Bw wz W) => Sp.at_in g M (by omega) m hml W (HDZ.out.bw h).at1)
                have HA2 := hid (fun (W : World) (h : Bw wz W) => Sp.at_in g2 M (by omega) m hml W (HDZ.out.bw h).swap.at1)
                generalize M[m] = q at *
                clear hml
                go_wp2_with fail
                refine (HA1.out _ (Bw.refl wz)).mono ?_
                rintro e w5 ⟨rfl, hb5⟩
                have HB5 := hid ((hb5.alloc (.cells #[.int .i64 q.lo, .int .i64 q.hi] 31)).alloc (.cells #[.int .i64 q.lo, .int .i64 q.hi] 31))
                have HX1 := hid ((Has.new w5 31 #[.int .i64 q.lo, .int .i64 q.hi]).alloc (.cells #[.int .i64 q.lo, .int .i64 q.hi] 31))
                have HX2 : Hid (Has ((w5.alloc (.cells #[.int .i64 q.lo, .int .i64 q.hi] 31)).alloc (.cells #[.int .i64 q.lo, .int .i64 q.hi] 31)) (w5.heap.size + 1) 31 #[.int .i64 q.lo, .int .i64 q.hi]) := hid (by simpa using Has.new (w5.alloc (.cells #[.int .i64 q.lo, .int .i64 q.hi] 31)) 31 #[.int .i64 q.lo, .int .i64 q.hi])
                clear hb5
                go_wp2_with fail
                refine (HA2.out _ HB5.out).mono ?_
                rintro e w6 ⟨rfl, hb6⟩
                have HB6 := hid (((HB5.out.trans hb6).alloc (.cells #[.int .i64 q.lo, .int .i64 q.hi] 31)).alloc (.cells #[.int .i64 q.lo, .int .i64 q.hi] 31))
                have hq6 := (hb6.alloc (.cells #[.int .i64 q.lo, .int .i64 q.hi] 31)).alloc (.cells #[.int .i64 q.lo, .int .i64 q.hi] 31)
                have HY1 := (Has.new w6 31 #[.int .i64 q.lo, .int .i64 q.hi]).alloc (.cells #[.int .i64 q.lo, .int .i64 q.hi] 31)
                have HY2 : Has ((w6.alloc (.cells #[.int .i64 q.lo, .int .i64 q.hi] 31)).alloc (.cells #[.int .i64 q.lo, .int .i64 q.hi] 31)) (w6.heap.size + 1) 31 #[.int .i64 q.lo, .int .i64 q.hi] := by simpa using Has.new (w6.alloc (.cells #[.int .i64 q.lo, .int .i64 q.hi] 31)) 31 #[.int .i64 q.lo, .int .i64 q.hi]
                have x0 := (hq6.has HX1.out).cell 0
                have x1 := (hq6.has HX1.out).cell 1
                have x2 := (hq6.has HX2.out).cell 0
                have x3 := (hq6.has HX2.out).cell 1
                have y0 := HY1.cell 0
                have y1 := HY1.cell 1
                have y2 := HY2.cell 0
                have y3 := HY2.cell 1
                clear hb6 hq6 HY1 HY2 HX1 HX2
                simp only [List.getElem?_toArray, List.getElem?_cons_zero, List.getElem?_cons_succ] at x0 x1 x2 x3 y0 y1 y2 y3
                go_wp2
                exact ⟨⟨m + 1, by omega, by go_num, HBZ.out.trans HB6.out⟩, by simp [intOf]; omega⟩
              · obtain rfl : 60 = m := by omega
                have HLN : Hid (∀ W h, Sp.SetAt W h M → Calls Try.prog 31 #[.pointer (some ⟨h, 0, none⟩)] W fun e w' => e = .returned (.int .i64 60) ∧ Bw W w') := hid fun W h hs => by
                  have := Sp.setlen_any h M (by omega) W hs
                  rw [HFR.out.len] at this
                  exact this
                go_wp2_with fail
                refine (HLN.out _ g HDZ.out.at1).mono ?_
                rintro e w5 ⟨rfl, hb5⟩
                have HD5 := hid (HDZ.out.bw hb5)
                clear hb5
                go_wp2_with fail
                refine (HLN.out _ g2 HD5.out.swap.at1).mono ?_
                rintro e w6 ⟨rfl, hb6⟩
                have HD6 := hid (HD5.out.bw hb6)
                clear hb6
                go_wp2_with fail
                refine (HL.out _).mono ?_
                rintro e w7 ⟨rfl, hb7⟩
                have HD7 := hid (HD6.out.bw hb7)
                clear hb7
                go_wp2
                go_returns
                exact ⟨rfl, HD7.out.low⟩
          · obtain ⟨i, rfl⟩ : ∃ i, j = i + 1 := ⟨j - 1, by omega⟩
            have e0 : ((i + 1 : Nat) : Int) - 1 = i := by omega
            rw [e0]
            clear e0
            obtain ⟨M, hA, hD⟩ := HM.out
            have hiN : i < 60 := by omega
            have hiNi : (i : Int) < 60 := by omega
            have hkl : i < l.length := by omega
            have hst := aft_step HFR.out hNl hA hiN
            obtain ⟨b, off, rfl, hbl, q0, q1⟩ := HST.out i hkl
            have hMl : M.length ≤ 60 := by have := hA.len; omega
            have HAD := hid (fun (W : World) (h : Duo w W g2 M g L) => duo_add w g2 g M L hA.rise (by omega) l[i].lo l[i].hi W h)
            rw [hst.1] at HAD
            have HNX := hid hst.2
            generalize addL M (l[i]).lo (l[i]).hi 0 = M' at *
            generalize l[i] = q at *
            have c0 := hD.low.cell q0
            have c1 := hD.low.cell q1
            have HDD := hid hD
            clear hst q0 q1 hA hD hkl HM
            go_wp2_with fail
            refine wp_region_still_tail 15 (by kernel_rfl) (by kernel_rfl) ?_
            simp only [List.take_succ_cons, List.take_zero, List.drop_succ_cons, List.drop_zero]
            repeat still_step
            refine wpStill_nil ?_
            change wpList _ _ _ _ _ wq.drew
            have HB1 := hid (HDD.out.swap.bw ((Bw.refl wq).drewN 1))
            clear c0 c1
            go_wp2_with fail
            refine (HAD.out _ HB1.out).mono ?_
            rintro e w3 ⟨rfl, hB2⟩
            have HB2 := hid hB2.swap
            clear hB2
            go_wp2
            exact ⟨⟨i, by omega, rfl, hid ⟨M', HNX.out, HB2.out⟩⟩, by first | (simp [intOf]; done) | (simp [intOf]; omega)⟩
set_option maxRecDepth 100000 in
set_option maxHeartbeats 8000000 in
theorem walkB (a : Option Addr) (len cap : Nat) (hlen : len ≤ 9223372036854775807) (l : List SpR) (hll : Hid (l.length = len)) (hlc : len ≤ cap) (hlen60 : len ≤ 60) (w : World) (hst : SpansIn w a l) :
    Calls Try.prog 6 #[.slice a len cap] w fun e w' => e = .returned (.bool true) ∧ Bw w w' := by
  have HL := hid live_any
  have HST := hid hst
  have A7 := hid (fun (W : World) => Sp.new_has W)
  have hNl : len ≤ l.length := by rw [hll.out]; omega
  have hgi : ¬ (60 : Int) < len := by omega
  clear hst
  go_enter Try.func6, Try.ntmps6
  go_wp2_with fail
  refine (A7.out _).mono ?_
  rintro e w1 ⟨g, rfl, hh1, hg1, hb1⟩
  go_wp2_with fail
  refine (A7.out _).mono ?_
  rintro e w2 ⟨g2, rfl, hh2, hg2, hb2⟩
  have H1 := hid (Duo.start hh1 hg1 hb1 hh2 hg2 hb2)
  clear hh1 hg1 hb1 hh2 hg2 hb2
  go_wp2_with fail
  go_loopw [5, 6] (fun al i wr => ∃ (k : Nat) (ok : Bool), k ≤ len ∧ i = .int .i64 k ∧ al = .bool ok ∧ Hid (∃ L, Rising L ∧ L.length ≤ k ∧ (ok = true → Fore l k L) ∧ Duo w wr g L g2 [])) (fun _ i _ => len - (intOf i).toNat)
  case atStart => exact ⟨0, true, Nat.zero_le _, rfl, rfl, hid ⟨[], trivial, Nat.le_refl _, fun _ => fore_zero l, H1.out⟩⟩
  case round =>
    rename World => wr
    obtain ⟨k, ok, hk, rfl, rfl, HB⟩ := hrel
    by_cases hlt : k < len
    · have hlti : (k : Int) < len := by omega
      obtain ⟨L, hR, hLk, hF, hB⟩ := HB.out
      have HFO := hid hF
      have HBB := hid hB
      have hkl : k < l.length := by omega
      have HFS := hid (fun (h : Fore l k L) he => fore_step h hkl he)
      obtain ⟨b, off, rfl, hbl, q0, q1⟩ := HST.out k hkl
      generalize l[k] = q at *
      have c0 := hB.low.cell q0
      have c1 := hB.low.cell q1
      have HAD := hid (fun (W : World) (h : Duo w W g L g2 []) => duo_add w g g2 L [] hR (by omega) q.lo q.hi W h)
      have HNR := hid (addL_rising hR q.lo q.hi 0)
      have HNL := hid (addL_len L q.lo q.hi 0)
      generalize addE L q.lo q.hi = ea at *
      generalize addL L q.lo q.hi 0 = L' at *
      clear hB hR hkl q0 q1 hF HB
      go_wp2_with fail
      refine wp_region_still_tail 15 (by kernel_rfl) (by kernel_rfl) ?_
      simp only [List.take_succ_cons, List.take_zero, List.drop_succ_cons, List.drop_zero]
      repeat still_step
      refine wpStill_nil ?_
      change wpList _ _ _ _ _ wr.drew
      have HB1 := hid (HBB.out.bw ((Bw.refl wr).drewN 1))
      clear c0 c1
      go_wp2_with fail
      refine (HAD.out _ HB1.out).mono ?_
      rintro e w3 ⟨rfl, hB2⟩
      have HB2 := hid hB2
      clear hB2
      cases ok with
      | false =>
        go_wp2
        exact ⟨⟨k + 1, false, by omega, by go_num, rfl, hid ⟨L', HNR.out, Nat.le_trans HNL.out (by omega), (fun h => by cases h), HB2.out⟩⟩, by simp [intOf]; omega⟩
      | true =>
        have HFT := hid (HFO.out rfl)
        clear HFO
        go_wp2
        exact ⟨⟨k + 1, ea == 0, by omega, by go_num, rfl, hid ⟨L', HNR.out, Nat.le_trans HNL.out (by omega), (fun h => HFS.out HFT.out (by simpa using h)), HB2.out⟩⟩, by simp [intOf]; omega⟩
    · obtain rfl : len = k := by omega
      obtain ⟨L, hR, hLk, hF, hB⟩ := HB.out
      have HR := hid hR
      have HBB := hid hB
      have HFO := hid hF
      clear hR hB hF HB
      cases ok with
      | false =>
        go_wp2_with fail
        refine (HL.out _).mono ?_
        rintro e w4 ⟨rfl, hb4⟩
        have HB4 := hid (HBB.out.bw hb4)
        clear hb4
        go_wp2
        go_returns
        exact ⟨rfl, HB4.out.low⟩
      | true =>
        have HFR := hid (HFO.out rfl)
        go_wp2_with fail
        have hLN : L.length ≤ 60 := by have := HFR.out.len; omega
        go_loopw [8] (fun i wq => ∃ j : Nat, j ≤ len ∧ i = .int .i64 ((j : Int) - 1) ∧ Hid (∃ M, Aft l len j M ∧ Duo w wq g L g2 M)) (fun i _ => (intOf i + 1).toNat)
        case atStart => exact ⟨len, Nat.le_refl _, rfl, hid ⟨[], aft_zero l len, HBB.out⟩⟩
        case round =>
          rename World => wq
          obtain ⟨j, hj, rfl, HM⟩ := hrel
          rcases Nat.eq_zero_or_pos j with rfl | hpos
          · have e0 : ((0 : Nat) : Int) - 1 = -1 := rfl
            rw [e0]
            clear e0
            obtain ⟨M, hA, hD⟩ := HM.out
            obtain rfl := fore_aft HFR.out hA
            have HD := hid hD
            clear hA hD HM
            go_wp2_with fail
            go_loopw [9] (fun i wz => ∃ m : Nat, m ≤ len ∧ i = .int .i64 m ∧ Bw wq wz) (fun i _ => len - (intOf i).toNat)
            case atStart => exact ⟨0, Nat.zero_le _, rfl, Bw.refl wq⟩
            case round =>
              rename World => wz
              obtain ⟨m, hm, rfl, hbz⟩ := hrel
              have HDZ := hid (HD.out.bw hbz)
              have HBZ := hid hbz
              clear hbz
              by_cases hlt3 : m < len
              · have hlt3i : (m : Int) < len := by omega
                have hml : m < M.length := by rw [HFR.out.len]; exact hlt3
                have HA1 := hid (fun (W : World) (h : Bw wz W) => Sp.at_in g M (by omega) m hml W (HDZ.out.bw h).at1)
                have HA2 := hid (fun (W : World) (h : Bw wz W) => Sp.at_in g2 M (by omega) m hml W (HDZ.out.bw h).swap.at1)
                generalize M[m] = q at *
                clear hml
                go_wp2_with fail
                refine (HA1.out _ (Bw.refl wz)).mono ?_
                rintro e w5 ⟨rfl, hb5⟩
                have HB5 := hid ((hb5.alloc (.cells #[.int .i64 q.lo, .int .i64 q.hi] 31)).alloc (.cells #[.int .i64 q.lo, .int .i64 q.hi] 31))
                have HX1 := hid ((Has.new w5 31 #[.int .i64 q.lo, .int .i64 q.hi]).alloc (.cells #[.int .i64 q.lo, .int .i64 q.hi] 31))
                have HX2 : Hid (Has ((w5.alloc (.cells #[.int .i64 q.lo, .int .i64 q.hi] 31)).alloc (.cells #[.int .i64 q.lo, .int .i64 q.hi] 31)) (w5.heap.size + 1) 31 #[.int .i64 q.lo, .int .i64 q.hi]) := hid (by simpa using Has.new (w5.alloc (.cells #[.int .i64 q.lo, .int .i64 q.hi] 31)) 31 #[.int .i64 q.lo, .int .i64 q.hi])
                clear hb5
                go_wp2_with fail
                refine (HA2.out _ HB5.out).mono ?_
                rintro e w6 ⟨rfl, hb6⟩
                have HB6 := hid (((HB5.out.trans hb6).alloc (.cells #[.int .i64 q.lo, .int .i64 q.hi] 31)).alloc (.cells #[.int .i64 q.lo, .int .i64 q.hi] 31))
                have hq6 := (hb6.alloc (.cells #[.int .i64 q.lo, .int .i64 q.hi] 31)).alloc (.cells #[.int .i64 q.lo, .int .i64 q.hi] 31)
                have HY1 := (Has.new w6 31 #[.int .i64 q.lo, .int .i64 q.hi]).alloc (.cells #[.int .i64 q.lo, .int .i64 q.hi] 31)
                have HY2 : Has ((w6.alloc (.cells #[.int .i64 q.lo, .int .i64 q.hi] 31)).alloc (.cells #[.int .i64 q.lo, .int .i64 q.hi] 31)) (w6.heap.size + 1) 31 #[.int .i64 q.lo, .int .i64 q.hi] := by simpa using Has.new (w6.alloc (.cells #[.int .i64 q.lo, .int .i64 q.hi] 31)) 31 #[.int .i64 q.lo, .int .i64 q.hi]
                have x0 := (hq6.has HX1.out).cell 0
                have x1 := (hq6.has HX1.out).cell 1
                have x2 := (hq6.has HX2.out).cell 0
                have x3 := (hq6.has HX2.out).cell 1
                have y0 := HY1.cell 0
                have y1 := HY1.cell 1
                have y2 := HY2.cell 0
                have y3 := HY2.cell 1
                clear hb6 hq6 HY1 HY2 HX1 HX2
                simp only [List.getElem?_toArray, List.getElem?_cons_zero, List.getElem?_cons_succ] at x0 x1 x2 x3 y0 y1 y2 y3
                go_wp2
                exact ⟨⟨m + 1, by omega, by go_num, HBZ.out.trans HB6.out⟩, by simp [intOf]; omega⟩
              · obtain rfl : len = m := by omega
                have HLN : Hid (∀ W h, Sp.SetAt W h M → Calls Try.prog 31 #[.pointer (some ⟨h, 0, none⟩)] W fun e w' => e = .returned (.int .i64 len) ∧ Bw W w') := hid fun W h hs => by
                  have := Sp.setlen_any h M (by omega) W hs
                  rw [HFR.out.len] at this
                  exact this
                go_wp2_with fail
                refine (HLN.out _ g HDZ.out.at1).mono ?_
                rintro e w5 ⟨rfl, hb5⟩
                have HD5 := hid (HDZ.out.bw hb5)
                clear hb5
                go_wp2_with fail
                refine (HLN.out _ g2 HD5.out.swap.at1).mono ?_
                rintro e w6 ⟨rfl, hb6⟩
                have HD6 := hid (HD5.out.bw hb6)
                clear hb6
                go_wp2_with fail
                refine (HL.out _).mono ?_
                rintro e w7 ⟨rfl, hb7⟩
                have HD7 := hid (HD6.out.bw hb7)
                clear hb7
                go_wp2
                go_returns
                exact ⟨rfl, HD7.out.low⟩
          · obtain ⟨i, rfl⟩ : ∃ i, j = i + 1 := ⟨j - 1, by omega⟩
            have e0 : ((i + 1 : Nat) : Int) - 1 = i := by omega
            rw [e0]
            clear e0
            obtain ⟨M, hA, hD⟩ := HM.out
            have hiN : i < len := by omega
            have hiNi : (i : Int) < len := by omega
            have hkl : i < l.length := by omega
            have hst := aft_step HFR.out hNl hA hiN
            obtain ⟨b, off, rfl, hbl, q0, q1⟩ := HST.out i hkl
            have hMl : M.length ≤ 60 := by have := hA.len; omega
            have HAD := hid (fun (W : World) (h : Duo w W g2 M g L) => duo_add w g2 g M L hA.rise (by omega) l[i].lo l[i].hi W h)
            rw [hst.1] at HAD
            have HNX := hid hst.2
            generalize addL M (l[i]).lo (l[i]).hi 0 = M' at *
            generalize l[i] = q at *
            have c0 := hD.low.cell q0
            have c1 := hD.low.cell q1
            have HDD := hid hD
            clear hst q0 q1 hA hD hkl HM
            go_wp2_with fail
            refine wp_region_still_tail 15 (by kernel_rfl) (by kernel_rfl) ?_
            simp only [List.take_succ_cons, List.take_zero, List.drop_succ_cons, List.drop_zero]
            repeat still_step
            refine wpStill_nil ?_
            change wpList _ _ _ _ _ wq.drew
            have HB1 := hid (HDD.out.swap.bw ((Bw.refl wq).drewN 1))
            clear c0 c1
            go_wp2_with fail
            refine (HAD.out _ HB1.out).mono ?_
            rintro e w3 ⟨rfl, hB2⟩
            have HB2 := hid hB2.swap
            clear hB2
            go_wp2
            exact ⟨⟨i, by omega, rfl, hid ⟨M', HNX.out, HB2.out⟩⟩, by first | (simp [intOf]; done) | (simp [intOf]; omega)⟩
theorem walk (a : Option Addr) (len cap : Nat) (hlen : len ≤ 9223372036854775807) (l : List SpR) (hll : Hid (l.length = len)) (hlc : len ≤ cap) (w : World) (hst : SpansIn w a l) :
    Calls Try.prog 6 #[.slice a len cap] w fun e w' => e = .returned (.bool true) ∧ Bw w w' := by
  rcases Nat.lt_or_ge 60 len with h | h
  · exact walkA a len cap hlen l hll hlc h w hst
  · exact walkB a len cap hlen l hll hlc h w hst

/-! The frame: from the walk to the statement. -/
theorem own : ownKnob Try.prog.godebug = none := by kernel_rfl
theorem laidOut : laidOutB Try.prog = true := by kernel_rfl
set_option maxRecDepth 100000 in
theorem lifted (os : Os) (started : os.Started) (H : Type) (enc : TypeId × Value → H) :
    ReturnsInHanded {} Try.checked os 6 .any (Rows.regionsTurnedSpec.pre6 enc Try.prog Try.f6 Rows.regionsTurnedRow.domain false) (Rows.regionsTurnedSpec.post enc Try.prog Try.f6 false true false false) := by
  refine returnsInHanded_of_change_sized (C := Try.checked) own started (by kernel_rfl) Try.func6
    (ChangeSpec.witness6 (enc := enc) (C := Try.checked) false ⟨#[], #[.slice none 0 0], []⟩ 8 (by kernel_rfl) (by kernel_rfl) (by kernel_rfl) (by kernel_rfl)) ?_
  intro W base args ds gs before hval0 hW hcnd hsz0 _
  have hval : ∀ (j : Nat) t v, Try.f6.params[j]? = some t → args[j]? = some v → Value.okWide Try.prog W .any base t v := hval0
  have hW' := hW
  obtain ⟨p, q, hA0, hV, rfl, hfz, hnd⟩ := hW
  have hA : DataW.TrodAll enc Try.prog W 0 (fun _ => true) true Try.f6.params.toList args.toList ds p := hA0
  have hsz : (DataW.weightsEach Try.prog (Try.f6.params.toList ++ Rows.regionsTurnedSpec.plain.varTypes Try.prog) (ds ++ gs)).all (· ≤ reachBytes) = true := hsz0
  rw [Try.params6] at hA hval hsz
  obtain ⟨v0, vs0, d0, ds0, p0, q0, hargs, rfl, rfl, h0, r0⟩ := trodAll_cons hA
  obtain ⟨rfl, rfl, rfl⟩ := trodAll_nil r0
  obtain rfl : args = #[v0] := by cases args; simp_all
  obtain ⟨rfl, rfl⟩ := trodVars_none hV
  have k0 := h0
  have lt0 : ∀ x ∈ p0, x.block < W.heap.size := by obtain ⟨m, hm⟩ := k0; exact DataW.trod_lt m _ _ _ hm
  obtain ⟨oa0, ol0, oc0, rfl⟩ := okWide_slice Try.underlying22 (hval 0 22 v0 rfl rfl)
  obtain ⟨m0, t0⟩ := h0
  obtain ⟨A0, len0, cap0, l0, he0, hl0, hll0, hlc0, hst0⟩ := open_spans t0
  rw [he0] at hW' k0 ⊢
  clear hA0 hval0
  try simp only [List.append_nil] at hW'
  refine (walk A0 len0 cap0 hl0 l0 hll0 hlc0 W hst0).mono fun e W' ⟨he, bel⟩ => ?_
  subst he
  exact ⟨_, rfl, _, _, _, [], _, [], hW', trodAll_mk1 (shut_bool Try.underlying4 _), (trodAll_cons_mk (Below.trod laidOut (by kernel_rfl) (of_decide_eq_true (by kernel_rfl)) k0 bel lt0) trodAll_mk0), rfl, Below.frame bel _, fun h => by cases h⟩

theorem proved : Rows.RegionsTurnedSaid :=
  OpenClaim.holds_of_wide 6 Try.f6 rfl rfl rfl rfl rfl rfl rfl ⟨rfl, rfl, rfl, rfl, rfl⟩ rfl rfl rfl rfl rfl (by kernel_rfl) Try.func6 (by kernel_rfl)
    (of_decide_eq_true (by kernel_rfl)) (by unfold Func.isWrapper; first | (rw [if_pos (by decide +kernel)]; kernel_rfl) | (rw [if_neg (by decide +kernel)]; exact ⟨rfl, rfl⟩))
    (fun os started H enc _ => lifted os started H enc)
end Go.Proofs.Ytemgdnloabefjaa.regionsTurned
