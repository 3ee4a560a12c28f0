/- The document's Name and Level (contracts of the functions). -/
import Derived.Test.YtlilmidffcmkjaaGreatDoorExpG
namespace Go.Proofs.YtlilmidffcmkjaaGreatDoor
open Go.RowKit
set_option linter.unusedVariables false
set_option linter.unusedSimpArgs false
set_option maxRecDepth 100000 in
set_option maxHeartbeats 2000000 in
theorem rName_any (s : ByteArray) (hs : s.size ≤ 9223372036854775807) (w : World) :
    Calls Tryz.prog 28 #[.string s] w fun e w' => e = .returned (.bool (nameB s)) ∧ w = w' := by
  by_cases h0 : s.size = 0
  · obtain rfl := toList_nil h0
    clear h0
    go_enter Tryz.func28, Tryz.ntmps28
    go_wp2
    go_returns
    exact ⟨rfl, rfl⟩
  · by_cases h16 : s.size ≤ 16
    · have g0 : ¬ ((s.size : Nat) : Int) < 1 := by omega
      have g0b : decide (s.size < 1) = false := decide_eq_false (by omega)
      have g16 : ¬ (16 : Int) < ((s.size : Nat) : Int) := by omega
      have hlt : 0 < s.size := by omega
      have hlti : (0 : Int) < s.size := by omega
      have hb := bAt_in hlt
      have hc : (s[0]'hlt).toNat < 256 := (s[0]'hlt).toNat_lt
      have HL := hid (fun W => rLetter_any (s[0]'hlt).toNat hc W)
      have HNB := hid (show nameB s = (isLet (s[0]'hlt).toNat && decide (wordK s 0 = s.size)) by unfold nameB; rw [decide_eq_true hlt, decide_eq_true h16, hb]; rfl)
      cases h1 : isLet (s[0]'hlt).toNat with
      | true =>
        rw [h1] at HL HNB
        have HW0 := hid (show isWrd (bAt s 0) = true by rw [hb]; unfold isWrd; rw [h1]; rfl)
        clear h0 h16 hb hc h1
        go_enter Tryz.func28, Tryz.ntmps28
        go_wp2_with fail
        refine (HL.out _).mono ?_
        rintro e w2 ⟨rfl, rfl⟩
        go_wp2
        go_loopw [3] (fun i wr => ∃ k : Nat, k ≤ s.size ∧ 1 ≤ k ∧ i = .int .i64 k ∧ Hid (∀ j, j < k → isWrd (bAt s j) = true) ∧ wr = w) (fun i _ => s.size - (intOf i).toNat)
        case atStart => exact ⟨1, hlt, Nat.le_refl _, rfl, hid (fun j h => by obtain rfl : j = 0 := by omega
                                                                              exact HW0.out), rfl⟩
        case round =>
          obtain ⟨k, hk, hk0, rfl, HA, rfl⟩ := hrel
          by_cases hkt : k < s.size
          · have hk1 : (k : Int) < s.size := by omega
            have hb := bAt_in hkt
            have hc : (s[k]'hkt).toNat < 256 := (s[k]'hkt).toNat_lt
            have HL2 := hid (fun W => rLetter_any (s[k]'hkt).toNat hc W)
            have HD2 := hid (fun W => rDigit_any (s[k]'hkt).toNat hc W)
            have HN := hid (fun (h : isWrd (s[k]'hkt).toNat = true) j (hj : j < k + 1) => (show isWrd (bAt s j) = true from by
              by_cases e : j < k
              · exact HA.out j e
              · obtain rfl : j = k := by omega
                rw [hb]; exact h))
            have HE := hid (fun (h : isWrd (s[k]'hkt).toNat = false) => (show nameB s = false from by
              have hwk : wordK s 0 = k := runK_is (by decide) (Nat.zero_le _) (by rw [hb]; exact h) fun i _ h2 => HA.out i h2
              rw [HNB.out, hwk, decide_eq_false (by omega)]
              rfl))
            have HW := hid (show isWrd (s[k]'hkt).toNat = (isLet (s[k]'hkt).toNat || isDig (s[k]'hkt).toNat) from rfl)
            cases h1 : isLet (s[k]'hkt).toNat with
            | true =>
              rw [h1] at HL2 HW
              have HN2 := hid (HN.out HW.out)
              clear hb hc HN HE HW HD2 h1
              go_wp2_with fail
              refine (HL2.out _).mono ?_
              rintro e w2 ⟨rfl, rfl⟩
              go_wp2
              exact ⟨⟨k + 1, by omega, by omega, by go_num, HN2, trivial⟩, by simp [intOf]; omega⟩
            | false =>
              rw [h1] at HL2 HW
              cases h2 : isDig (s[k]'hkt).toNat with
              | true =>
                rw [h2] at HD2 HW
                have HN2 := hid (HN.out HW.out)
                clear hb hc HN HE HW h1 h2
                go_wp2_with fail
                refine (HL2.out _).mono ?_
                rintro e w2 ⟨rfl, rfl⟩
                go_wp2_with fail
                refine (HD2.out _).mono ?_
                rintro e w3 ⟨rfl, rfl⟩
                go_wp2
                exact ⟨⟨k + 1, by omega, by omega, by go_num, HN2, trivial⟩, by simp [intOf]; omega⟩
              | false =>
                rw [h2] at HD2 HW
                have HE2 := hid (HE.out HW.out)
                clear hb hc HN HE HW h1 h2
                go_wp2_with fail
                refine (HL2.out _).mono ?_
                rintro e w2 ⟨rfl, rfl⟩
                go_wp2_with fail
                refine (HD2.out _).mono ?_
                rintro e w3 ⟨rfl, rfl⟩
                go_wp2
                go_returns
                exact ⟨by rw [HE2.out]; rfl, rfl⟩
          · obtain rfl : k = s.size := by omega
            have hE : nameB s = true := by
              have hwk : wordK s 0 = s.size := runK_is (by decide) (Nat.zero_le _) (by rw [bAt_out (Nat.lt_irrefl _)]; decide) fun i _ h2 => HA.out i h2
              rw [HNB.out, hwk, decide_eq_true rfl]
              rfl
            have HE := hid hE
            clear hE
            go_wp2
            go_returns
            exact ⟨by rw [HE.out]; rfl, rfl⟩
      | false =>
        rw [h1] at HL HNB
        clear h0 h16 hb hc h1
        go_enter Tryz.func28, Tryz.ntmps28
        go_wp2_with fail
        refine (HL.out _).mono ?_
        rintro e w2 ⟨rfl, rfl⟩
        go_wp2
        go_returns
        exact ⟨by rw [HNB.out]; rfl, rfl⟩
    · have g0 : ¬ ((s.size : Nat) : Int) < 1 := by omega
      have g0b : decide (s.size < 1) = false := decide_eq_false (by omega)
      have g16 : (16 : Int) < ((s.size : Nat) : Int) := by omega
      have HNB := hid (show nameB s = false by unfold nameB; rw [decide_eq_false h16]; simp)
      clear h0 h16
      go_enter Tryz.func28, Tryz.ntmps28
      go_wp2
      go_returns
      exact ⟨by rw [HNB.out]; rfl, rfl⟩
theorem str_nl {a : ByteArray} {x : Array UInt8} (h : a ≠ ⟨x⟩) : (a.toList == x.toList) = false := by
  have := str_ne h
  rw [toList_data ⟨x⟩] at this
  exact this
theorem lvl_from (s : ByteArray) : ∀ (m j : Nat), j + m ≤ 12 → (∀ i, i < j → s ≠ sgS i) → lvlOf s = lvlGo (sgnT.drop j) s
  | m, 0, _, _ => rfl
  | m, j + 1, h, hne => by
    have h1 := lvl_from s (m + 1) j (by omega) (fun i hi => hne i (by omega))
    rw [h1, sgn_drop j (by omega) s, if_neg (hne j (by omega))]
theorem lvl_at {s : ByteArray} (j : Nat) (hj : j < 12) (h : ∀ i, i < j → s ≠ sgS i) (e : s = sgS j) : lvlOf s = sgL j := by
  rw [lvl_from s 0 j (by omega) h, sgn_drop j hj s, if_pos e]
theorem lvl_none {s : ByteArray} (h : ∀ i, i < 12 → s ≠ sgS i) : lvlOf s = 0 := by
  rw [lvl_from s 0 12 (by omega) h]
  rfl
set_option maxRecDepth 100000 in
set_option maxHeartbeats 8000000 in
theorem rLevel_any (s : ByteArray) (w : World) :
    Calls Tryz.prog 18 #[.string s] w fun e w' => e = .returned (.int .i64 (lvlOf s : Nat)) ∧ w = w' := by
  by_cases h0 : s = ⟨#[61, 61]⟩
  · have HF := hid (lvl_at (s := s) 0 (by decide) (fun i hi => absurd hi (by omega)) h0)
    subst h0
    go_enter Tryz.func18, Tryz.ntmps18
    go_wp2
    go_returns
    exact ⟨by rw [HF.out]; rfl, rfl⟩
  by_cases h1 : s = ⟨#[33, 61]⟩
  · have HF := hid (lvl_at (s := s) 1 (by decide) (fun i hi => by
      match i, hi with
      | 0, _ => exact h0
      | i + 1, hi => omega) h1)
    have k0 : (s.toList == [61, 61]) = false := str_nl h0
    clear h0
    subst h1
    go_enter Tryz.func18, Tryz.ntmps18
    go_wp2
    go_returns
    exact ⟨by rw [HF.out]; rfl, rfl⟩
  by_cases h2 : s = ⟨#[60]⟩
  · have HF := hid (lvl_at (s := s) 2 (by decide) (fun i hi => by
      match i, hi with
      | 0, _ => exact h0
      | 1, _ => exact h1
      | i + 2, hi => omega) h2)
    have k0 : (s.toList == [61, 61]) = false := str_nl h0
    have k1 : (s.toList == [33, 61]) = false := str_nl h1
    clear h0 h1
    subst h2
    go_enter Tryz.func18, Tryz.ntmps18
    go_wp2
    go_returns
    exact ⟨by rw [HF.out]; rfl, rfl⟩
  by_cases h3 : s = ⟨#[124]⟩
  · have HF := hid (lvl_at (s := s) 3 (by decide) (fun i hi => by
      match i, hi with
      | 0, _ => exact h0
      | 1, _ => exact h1
      | 2, _ => exact h2
      | i + 3, hi => omega) h3)
    have k0 : (s.toList == [61, 61]) = false := str_nl h0
    have k1 : (s.toList == [33, 61]) = false := str_nl h1
    have k2 : (s.toList == [60]) = false := str_nl h2
    clear h0 h1 h2
    subst h3
    go_enter Tryz.func18, Tryz.ntmps18
    go_wp2
    go_returns
    exact ⟨by rw [HF.out]; rfl, rfl⟩
  by_cases h4 : s = ⟨#[38]⟩
  · have HF := hid (lvl_at (s := s) 4 (by decide) (fun i hi => by
      match i, hi with
      | 0, _ => exact h0
      | 1, _ => exact h1
      | 2, _ => exact h2
      | 3, _ => exact h3
      | i + 4, hi => omega) h4)
    have k0 : (s.toList == [61, 61]) = false := str_nl h0
    have k1 : (s.toList == [33, 61]) = false := str_nl h1
    have k2 : (s.toList == [60]) = false := str_nl h2
    have k3 : (s.toList == [124]) = false := str_nl h3
    clear h0 h1 h2 h3
    subst h4
    go_enter Tryz.func18, Tryz.ntmps18
    go_wp2
    go_returns
    exact ⟨by rw [HF.out]; rfl, rfl⟩
  by_cases h5 : s = ⟨#[60, 60]⟩
  · have HF := hid (lvl_at (s := s) 5 (by decide) (fun i hi => by
      match i, hi with
      | 0, _ => exact h0
      | 1, _ => exact h1
      | 2, _ => exact h2
      | 3, _ => exact h3
      | 4, _ => exact h4
      | i + 5, hi => omega) h5)
    have k0 : (s.toList == [61, 61]) = false := str_nl h0
    have k1 : (s.toList == [33, 61]) = false := str_nl h1
    have k2 : (s.toList == [60]) = false := str_nl h2
    have k3 : (s.toList == [124]) = false := str_nl h3
    have k4 : (s.toList == [38]) = false := str_nl h4
    clear h0 h1 h2 h3 h4
    subst h5
    go_enter Tryz.func18, Tryz.ntmps18
    go_wp2
    go_returns
    exact ⟨by rw [HF.out]; rfl, rfl⟩
  by_cases h6 : s = ⟨#[62, 62]⟩
  · have HF := hid (lvl_at (s := s) 6 (by decide) (fun i hi => by
      match i, hi with
      | 0, _ => exact h0
      | 1, _ => exact h1
      | 2, _ => exact h2
      | 3, _ => exact h3
      | 4, _ => exact h4
      | 5, _ => exact h5
      | i + 6, hi => omega) h6)
    have k0 : (s.toList == [61, 61]) = false := str_nl h0
    have k1 : (s.toList == [33, 61]) = false := str_nl h1
    have k2 : (s.toList == [60]) = false := str_nl h2
    have k3 : (s.toList == [124]) = false := str_nl h3
    have k4 : (s.toList == [38]) = false := str_nl h4
    have k5 : (s.toList == [60, 60]) = false := str_nl h5
    clear h0 h1 h2 h3 h4 h5
    subst h6
    go_enter Tryz.func18, Tryz.ntmps18
    go_wp2
    go_returns
    exact ⟨by rw [HF.out]; rfl, rfl⟩
  by_cases h7 : s = ⟨#[43]⟩
  · have HF := hid (lvl_at (s := s) 7 (by decide) (fun i hi => by
      match i, hi with
      | 0, _ => exact h0
      | 1, _ => exact h1
      | 2, _ => exact h2
      | 3, _ => exact h3
      | 4, _ => exact h4
      | 5, _ => exact h5
      | 6, _ => exact h6
      | i + 7, hi => omega) h7)
    have k0 : (s.toList == [61, 61]) = false := str_nl h0
    have k1 : (s.toList == [33, 61]) = false := str_nl h1
    have k2 : (s.toList == [60]) = false := str_nl h2
    have k3 : (s.toList == [124]) = false := str_nl h3
    have k4 : (s.toList == [38]) = false := str_nl h4
    have k5 : (s.toList == [60, 60]) = false := str_nl h5
    have k6 : (s.toList == [62, 62]) = false := str_nl h6
    clear h0 h1 h2 h3 h4 h5 h6
    subst h7
    go_enter Tryz.func18, Tryz.ntmps18
    go_wp2
    go_returns
    exact ⟨by rw [HF.out]; rfl, rfl⟩
  by_cases h8 : s = ⟨#[45]⟩
  · have HF := hid (lvl_at (s := s) 8 (by decide) (fun i hi => by
      match i, hi with
      | 0, _ => exact h0
      | 1, _ => exact h1
      | 2, _ => exact h2
      | 3, _ => exact h3
      | 4, _ => exact h4
      | 5, _ => exact h5
      | 6, _ => exact h6
      | 7, _ => exact h7
      | i + 8, hi => omega) h8)
    have k0 : (s.toList == [61, 61]) = false := str_nl h0
    have k1 : (s.toList == [33, 61]) = false := str_nl h1
    have k2 : (s.toList == [60]) = false := str_nl h2
    have k3 : (s.toList == [124]) = false := str_nl h3
    have k4 : (s.toList == [38]) = false := str_nl h4
    have k5 : (s.toList == [60, 60]) = false := str_nl h5
    have k6 : (s.toList == [62, 62]) = false := str_nl h6
    have k7 : (s.toList == [43]) = false := str_nl h7
    clear h0 h1 h2 h3 h4 h5 h6 h7
    subst h8
    go_enter Tryz.func18, Tryz.ntmps18
    go_wp2
    go_returns
    exact ⟨by rw [HF.out]; rfl, rfl⟩
  by_cases h9 : s = ⟨#[42]⟩
  · have HF := hid (lvl_at (s := s) 9 (by decide) (fun i hi => by
      match i, hi with
      | 0, _ => exact h0
      | 1, _ => exact h1
      | 2, _ => exact h2
      | 3, _ => exact h3
      | 4, _ => exact h4
      | 5, _ => exact h5
      | 6, _ => exact h6
      | 7, _ => exact h7
      | 8, _ => exact h8
      | i + 9, hi => omega) h9)
    have k0 : (s.toList == [61, 61]) = false := str_nl h0
    have k1 : (s.toList == [33, 61]) = false := str_nl h1
    have k2 : (s.toList == [60]) = false := str_nl h2
    have k3 : (s.toList == [124]) = false := str_nl h3
    have k4 : (s.toList == [38]) = false := str_nl h4
    have k5 : (s.toList == [60, 60]) = false := str_nl h5
    have k6 : (s.toList == [62, 62]) = false := str_nl h6
    have k7 : (s.toList == [43]) = false := str_nl h7
    have k8 : (s.toList == [45]) = false := str_nl h8
    clear h0 h1 h2 h3 h4 h5 h6 h7 h8
    subst h9
    go_enter Tryz.func18, Tryz.ntmps18
    go_wp2
    go_returns
    exact ⟨by rw [HF.out]; rfl, rfl⟩
  by_cases h10 : s = ⟨#[47]⟩
  · have HF := hid (lvl_at (s := s) 10 (by decide) (fun i hi => by
      match i, hi with
      | 0, _ => exact h0
      | 1, _ => exact h1
      | 2, _ => exact h2
      | 3, _ => exact h3
      | 4, _ => exact h4
      | 5, _ => exact h5
      | 6, _ => exact h6
      | 7, _ => exact h7
      | 8, _ => exact h8
      | 9, _ => exact h9
      | i + 10, hi => omega) h10)
    have k0 : (s.toList == [61, 61]) = false := str_nl h0
    have k1 : (s.toList == [33, 61]) = false := str_nl h1
    have k2 : (s.toList == [60]) = false := str_nl h2
    have k3 : (s.toList == [124]) = false := str_nl h3
    have k4 : (s.toList == [38]) = false := str_nl h4
    have k5 : (s.toList == [60, 60]) = false := str_nl h5
    have k6 : (s.toList == [62, 62]) = false := str_nl h6
    have k7 : (s.toList == [43]) = false := str_nl h7
    have k8 : (s.toList == [45]) = false := str_nl h8
    have k9 : (s.toList == [42]) = false := str_nl h9
    clear h0 h1 h2 h3 h4 h5 h6 h7 h8 h9
    subst h10
    go_enter Tryz.func18, Tryz.ntmps18
    go_wp2
    go_returns
    exact ⟨by rw [HF.out]; rfl, rfl⟩
  by_cases h11 : s = ⟨#[37]⟩
  · have HF := hid (lvl_at (s := s) 11 (by decide) (fun i hi => by
      match i, hi with
      | 0, _ => exact h0
      | 1, _ => exact h1
      | 2, _ => exact h2
      | 3, _ => exact h3
      | 4, _ => exact h4
      | 5, _ => exact h5
      | 6, _ => exact h6
      | 7, _ => exact h7
      | 8, _ => exact h8
      | 9, _ => exact h9
      | 10, _ => exact h10
      | i + 11, hi => omega) h11)
    have k0 : (s.toList == [61, 61]) = false := str_nl h0
    have k1 : (s.toList == [33, 61]) = false := str_nl h1
    have k2 : (s.toList == [60]) = false := str_nl h2
    have k3 : (s.toList == [124]) = false := str_nl h3
    have k4 : (s.toList == [38]) = false := str_nl h4
    have k5 : (s.toList == [60, 60]) = false := str_nl h5
    have k6 : (s.toList == [62, 62]) = false := str_nl h6
    have k7 : (s.toList == [43]) = false := str_nl h7
    have k8 : (s.toList == [45]) = false := str_nl h8
    have k9 : (s.toList == [42]) = false := str_nl h9
    have k10 : (s.toList == [47]) = false := str_nl h10
    clear h0 h1 h2 h3 h4 h5 h6 h7 h8 h9 h10
    subst h11
    go_enter Tryz.func18, Tryz.ntmps18
    go_wp2
    go_returns
    exact ⟨by rw [HF.out]; rfl, rfl⟩
  have HF := hid (lvl_none (s := s) (fun i hi => by
    match i, hi with
    | 0, _ => exact h0
    | 1, _ => exact h1
    | 2, _ => exact h2
    | 3, _ => exact h3
    | 4, _ => exact h4
    | 5, _ => exact h5
    | 6, _ => exact h6
    | 7, _ => exact h7
    | 8, _ => exact h8
    | 9, _ => exact h9
    | 10, _ => exact h10
    | 11, _ => exact h11
    | i + 12, hi => omega))
  have k0 : (s.toList == [61, 61]) = false := str_nl h0
  have k1 : (s.toList == [33, 61]) = false := str_nl h1
  have k2 : (s.toList == [60]) = false := str_nl h2
  have k3 : (s.toList == [124]) = false := str_nl h3
  have k4 : (s.toList == [38]) = false := str_nl h4
  have k5 : (s.toList == [60, 60]) = false := str_nl h5
  have k6 : (s.toList == [62, 62]) = false := str_nl h6
  have k7 : (s.toList == [43]) = false := str_nl h7
  have k8 : (s.toList == [45]) = false := str_nl h8
  have k9 : (s.toList == [42]) = false := str_nl h9
  have k10 : (s.toList == [47]) = false := str_nl h10
  have k11 : (s.toList == [37]) = false := str_nl h11
  clear h0 h1 h2 h3 h4 h5 h6 h7 h8 h9 h10 h11
  go_enter Tryz.func18, Tryz.ntmps18
  go_wp2
  go_returns
  exact ⟨by rw [HF.out]; rfl, rfl⟩
end Go.Proofs.YtlilmidffcmkjaaGreatDoor
