/- Whether a sound is valid; its fmt (contracts of the functions). -/
import Derived.Test.YtgkgimfdbkpbdaaDoorWavT
import Derived.Deep.RegionHeld3
import Derived.Deep.DeepCutAuto
import Derived.Deep.QuietTactic
import Derived.BigQuiet
import Derived.StillTailTactics
namespace Go.Proofs.YtgkgimfdbkpbdaaDoor
open Go.RowKit
set_option linter.unusedVariables false
set_option linter.unusedSimpArgs false
/-- A sound's value, its More at a slice. -/
def sndV (m : SndR) (a : Option Addr) (n c : Nat) : Value := .agg #[.int .i64 m.ch, .int .i64 m.rate, .int .i64 m.bits, .string m.frames, .slice a n c]
theorem Has.five {w : World} {g : Nat} {t : TypeId} {a b c d e : Value} (h : Has w g t #[a, b, c, d, e]) : w.cell? ⟨g, 0, none⟩ = some a ∧ w.cell? ⟨g, 1, none⟩ = some b ∧ w.cell? ⟨g, 2, none⟩ = some c ∧ w.cell? ⟨g, 3, none⟩ = some d ∧ w.cell? ⟨g, 4, none⟩ = some e :=
  ⟨h.cell 0, h.cell 1, h.cell 2, h.cell 3, h.cell 4⟩
set_option maxRecDepth 100000 in
set_option maxHeartbeats 8000000 in
theorem isValid_any (m : SndR) (hz : m.frames.size ≤ 100000) (a : Option Addr) (len c : Nat) (hlen : len ≤ 9223372036854775807) (hll : Hid (m.more.length = len)) (w : World) (ha : ChkAt w a m.more) :
    Calls Tryd.prog 35 #[sndV m a len c] w fun e w' => e = .returned (.bool (soundB m)) ∧ Bw w w' := by
  have HB := hid (show soundB m = (shapeB m && decide (m.frames.size % algN m = 0) && m.more.all moreB) from rfl)
  have HSH := hid (show shapeB m = (decide (1 ≤ m.ch ∧ m.ch ≤ 16 ∧ 1 ≤ m.rate ∧ m.rate ≤ 16777216) && bitsB m.bits) from rfl)
  obtain ⟨R, hR⟩ : ∃ R, soundB m = R := ⟨_, rfl⟩
  rw [hR] at HB ⊢
  clear hR
  have HIB := hid (fun W => isBits_any m.bits W)
  have HM := hid (show algN m = m.ch.toNat * m.bits.toNat / 8 from rfl)
  have HA := hid ha
  have HCO := hid (fun W (hW : Bw w W) => contains_any a len c hlen m.more hll W (ha.below hW))
  obtain ⟨ch, rate, bits, fr, more⟩ := m
  simp only at HB HSH HIB HM HA HCO hz hll ⊢
  unfold sndV
  simp only
  have HW := hid ((Bw.refl w).alloc (.cells #[.int .i64 ch, .int .i64 rate, .int .i64 bits, .string fr, .slice a len c] 34))
  have HN := hid (Has.new w 34 #[.int .i64 ch, .int .i64 rate, .int .i64 bits, .string fr, .slice a len c])
  obtain ⟨g, hg⟩ : ∃ g, w.heap.size = g := ⟨_, rfl⟩
  rw [hg] at HN
  clear ha
  by_cases h1 : 1 ≤ ch
  · by_cases h2 : ch ≤ 16
    · by_cases h3 : 1 ≤ rate
      · by_cases h4 : rate ≤ 16777216
        · cases h5 : bitsB bits with
          | false =>
            rw [h5] at HIB
            have HV := hid (show R = false from by rw [HB.out, HSH.out, h5, Bool.and_false, Bool.false_and, Bool.false_and])
            have t1 : decide (1 ≤ ch) = true := decide_eq_true h1
            have t2 : decide (ch ≤ 16) = true := decide_eq_true h2
            have t3 : decide (1 ≤ rate) = true := decide_eq_true h3
            have t4 : decide (rate ≤ 16777216) = true := decide_eq_true h4
            go_enter Tryd.func35, Tryd.ntmps35
            go_upto_region 1 with fail
            generalize w.alloc (.cells #[.int .i64 ch, .int .i64 rate, .int .i64 bits, .string fr, .slice a len c] 34) = w1 at *
            obtain ⟨n0, n1, n2, n3, n4⟩ := HN.out.five
            go_wp2_with fail
            go_quiet ((go_at_call 52; exact Calls.quiet_of_same (HIB.out _)))
            go_wp2
            go_returns
            exact ⟨by rw [HV.out]; rfl, HW.out.drewN _⟩
          | true =>
            rw [h5] at HIB HSH
            have h6 := bits_cases h5
            have HSH2 := hid (show shapeB ⟨ch, rate, bits, fr, more⟩ = true from by rw [HSH.out, decide_eq_true (by omega)]; rfl)
            clear HSH h5
            obtain ⟨c', rfl⟩ := Int.eq_ofNat_of_zero_le (show 0 ≤ ch by omega)
            obtain ⟨r', rfl⟩ := Int.eq_ofNat_of_zero_le (show 0 ≤ rate by omega)
            obtain ⟨b', rfl⟩ := Int.eq_ofNat_of_zero_le (show 0 ≤ bits by omega)
            have h7 : b' = 8 ∨ b' = 16 ∨ b' = 24 ∨ b' = 32 := by omega
            obtain ⟨ha0, ha1⟩ := alg_le (c := c') (b := b') (by omega) (by omega) h7
            have HFW := hid (fun W => frameWidth_any c' r' b' (by omega) (by omega) (.string fr) (.slice a len c) W)
            rw [Int.toNat_natCast, Int.toNat_natCast] at HM
            obtain ⟨al, hal⟩ : ∃ al, c' * b' / 8 = al := ⟨_, rfl⟩
            rw [hal] at HFW HM ha0 ha1
            rw [HM.out, HSH2.out] at HB
            clear hal HM HSH2 h6 h7
            have t1 : decide (1 ≤ (c' : Int)) = true := decide_eq_true h1
            have t2 : decide ((c' : Int) ≤ 16) = true := decide_eq_true h2
            have t3 : decide (1 ≤ (r' : Int)) = true := decide_eq_true h3
            have t4 : decide ((r' : Int) ≤ 16777216) = true := decide_eq_true h4
            go_enter Tryd.func35, Tryd.ntmps35
            go_upto_region 1 with fail
            generalize w.alloc (.cells #[.int .i64 (c' : Int), .int .i64 (r' : Int), .int .i64 (b' : Int), .string fr, .slice a len c] 34) = w1 at *
            obtain ⟨n0, n1, n2, n3, n4⟩ := HN.out.five
            have HSS := hid (fun W (hW : Bw w1 W) => (show W.cell? ⟨g, 0, none⟩ = some (.int .i64 c') ∧ W.cell? ⟨g, 1, none⟩ = some (.int .i64 r') ∧ W.cell? ⟨g, 2, none⟩ = some (.int .i64 b') ∧ W.cell? ⟨g, 3, none⟩ = some (.string fr) ∧ W.cell? ⟨g, 4, none⟩ = some (.slice a len c) from (hW.has HN.out).five))
            have HBD := hid (show Bw w1 w1.drew from (Bw.refl w1).drewN 1)
            have q1 : ¬ (al : Int) = 0 := by omega
            have q2 : ¬ al = 0 := by omega
            have q4 : (fr.size : Int).tmod al = ((fr.size % al : Nat) : Int) := rfl
            obtain ⟨md, hmd⟩ : ∃ md, fr.size % al = md := ⟨_, rfl⟩
            rw [hmd] at HB q4
            clear hmd
            by_cases h8 : md = 0
            · have t8 : ((md : Int) == 0) = true := by rw [beq_iff_eq]; omega
              have HV := hid (show R = more.all moreB from by rw [HB.out, decide_eq_true h8]; rfl)
              have t9 : (md == 0) = true := by rw [beq_iff_eq]; exact h8
              clear HB h8
              go_wp2_with fail
              go_region_held3 (fun W => W.cell? ⟨g, 0, none⟩ = some (.int .i64 c') ∧ W.cell? ⟨g, 1, none⟩ = some (.int .i64 r') ∧ W.cell? ⟨g, 2, none⟩ = some (.int .i64 b') ∧ W.cell? ⟨g, 3, none⟩ = some (.string fr) ∧ W.cell? ⟨g, 4, none⟩ = some (.slice a len c))
                (first | exact HSS.out _ HBD.out | exact HSS.out _ HBa.out | exact HSS.out _ HBb.out)
                (first | (go_at_call 52; refine (HIB.out _).mono ?_; rintro e w2 ⟨rfl, rfl⟩) | (go_at_call 53; refine (HFW.out _).mono ?_; rintro e w3 ⟨rfl, hba⟩; have HBa := hid (HBD.out.trans hba); clear hba) | (go_at_call 54; refine (HCO.out _ (HW.out.trans HBa.out)).mono ?_; rintro e w4 ⟨rfl, hbb⟩; have HBb := hid (HBa.out.trans hbb); clear hbb))
              all_goals
                go_wp2
                go_returns
                exact ⟨by rw [HV.out]; simp, HW.out.trans HBb.out⟩
            · have t8 : ((md : Int) == 0) = false := by rw [beq_eq_false_iff_ne]; omega
              have HV := hid (show R = false from by rw [HB.out, decide_eq_false h8, Bool.and_false, Bool.false_and])
              have t9 : (md == 0) = false := by rw [beq_eq_false_iff_ne]; exact h8
              clear HB h8
              go_wp2_with fail
              have HD0 := hid (show w1.drew.cell? ⟨g, 0, none⟩ = some (.int .i64 c') ∧ w1.drew.cell? ⟨g, 1, none⟩ = some (.int .i64 r') ∧ w1.drew.cell? ⟨g, 2, none⟩ = some (.int .i64 b') ∧ w1.drew.cell? ⟨g, 3, none⟩ = some (.string fr) ∧ w1.drew.cell? ⟨g, 4, none⟩ = some (.slice a len c) from HN.out.five)
              obtain ⟨d0, d1, d2, d3, d4⟩ := HD0.out
              first
                | (go_region_with (first | (go_at_call 52; refine (HIB.out _).mono ?_; rintro e w2 ⟨rfl, rfl⟩) | (go_at_call 53; refine (HFW.out _).mono ?_; rintro e w3 ⟨rfl, hba⟩; have HBa := hid (HBD.out.trans hba); obtain ⟨e0, e1, e2, e3, e4⟩ := (HBa.out.has HN.out).five; clear hba)))
                | fail
              all_goals
                go_wp2
                go_returns
                exact ⟨by rw [HV.out]; rfl, HW.out.trans HBa.out⟩
        · have HV := hid (show R = false from by rw [HB.out, HSH.out, decide_eq_false (by omega), Bool.false_and, Bool.false_and, Bool.false_and])
          have t1 : decide (1 ≤ ch) = true := decide_eq_true h1
          have t2 : decide (ch ≤ 16) = true := decide_eq_true h2
          have t3 : decide (1 ≤ rate) = true := decide_eq_true h3
          have t4 : decide (rate ≤ 16777216) = false := decide_eq_false h4
          go_enter Tryd.func35, Tryd.ntmps35
          go_upto_region 1 with fail
          generalize w.alloc (.cells #[.int .i64 ch, .int .i64 rate, .int .i64 bits, .string fr, .slice a len c] 34) = w1 at *
          obtain ⟨n0, n1, n2, n3, n4⟩ := HN.out.five
          go_wp2_with fail
          go_quiet (fail)
          go_wp2
          go_returns
          exact ⟨by rw [HV.out]; rfl, HW.out.drewN _⟩
      · have HV := hid (show R = false from by rw [HB.out, HSH.out, decide_eq_false (by omega), Bool.false_and, Bool.false_and, Bool.false_and])
        have t1 : decide (1 ≤ ch) = true := decide_eq_true h1
        have t2 : decide (ch ≤ 16) = true := decide_eq_true h2
        have t3 : decide (1 ≤ rate) = false := decide_eq_false h3
        go_enter Tryd.func35, Tryd.ntmps35
        go_upto_region 1 with fail
        generalize w.alloc (.cells #[.int .i64 ch, .int .i64 rate, .int .i64 bits, .string fr, .slice a len c] 34) = w1 at *
        obtain ⟨n0, n1, n2, n3, n4⟩ := HN.out.five
        go_wp2_with fail
        go_quiet (fail)
        go_wp2
        go_returns
        exact ⟨by rw [HV.out]; rfl, HW.out.drewN _⟩
    · have HV := hid (show R = false from by rw [HB.out, HSH.out, decide_eq_false (by omega), Bool.false_and, Bool.false_and, Bool.false_and])
      have t1 : decide (1 ≤ ch) = true := decide_eq_true h1
      have t2 : decide (ch ≤ 16) = false := decide_eq_false h2
      go_enter Tryd.func35, Tryd.ntmps35
      go_upto_region 1 with fail
      generalize w.alloc (.cells #[.int .i64 ch, .int .i64 rate, .int .i64 bits, .string fr, .slice a len c] 34) = w1 at *
      obtain ⟨n0, n1, n2, n3, n4⟩ := HN.out.five
      go_wp2_with fail
      go_quiet (fail)
      go_wp2
      go_returns
      exact ⟨by rw [HV.out]; rfl, HW.out.drewN _⟩
  · have HV := hid (show R = false from by rw [HB.out, HSH.out, decide_eq_false (by omega), Bool.false_and, Bool.false_and, Bool.false_and])
    have t1 : decide (1 ≤ ch) = false := decide_eq_false h1
    go_enter Tryd.func35, Tryd.ntmps35
    go_upto_region 1 with fail
    generalize w.alloc (.cells #[.int .i64 ch, .int .i64 rate, .int .i64 bits, .string fr, .slice a len c] 34) = w1 at *
    obtain ⟨n0, n1, n2, n3, n4⟩ := HN.out.five
    go_wp2_with fail
    go_quiet (fail)
    go_wp2
    go_returns
    exact ⟨by rw [HV.out]; rfl, HW.out.drewN _⟩
end Go.Proofs.YtgkgimfdbkpbdaaDoor
