/- The document's lexer: numbers at base ten, case 3 of 3. -/
import Derived.Test.YtlilmidffcmkjaaGreatDoorRdD
namespace Go.Proofs.YtlilmidffcmkjaaGreatDoor
open Go.RowKit
set_option linter.unusedVariables false
set_option linter.unusedSimpArgs false
set_option maxRecDepth 100000 in
set_option maxHeartbeats 16000000 in
theorem number_10c (B lb : Nat) (hB : B ≤ lb) (s : ByteArray) (hs : s.size ≤ 20000) (k : Nat) (hk : k ≤ s.size) (bad : Bool) (w : World) (h : LxAt w lb s k bad) (hx : hexB s (skipK s k) = false) (x1 : ¬ skipK s k + 1 < s.size) :
    Calls Tryz.prog 29 #[.pointer (some ⟨lb, 0, none⟩)] w fun e w' => e = .returned (.tuple #[.int .u64 ((numZ s (skipK s k)).1 : Nat), .int .i64 ((numZ s (skipK s k)).2 : Nat)]) ∧ LxAt w' lb s (skipK s k) bad ∧ KT TL B w w' := by
  have HBL := hid (blank_any B lb hB s hs k hk bad w h)
  have hq : skipK s k ≤ s.size := runK_le isBlk s k hk
  obtain ⟨q, hqq⟩ : ∃ q, skipK s k = q := ⟨_, rfl⟩
  rw [hqq] at HBL hq hx x1 ⊢
  have hge : q ≤ wordK s q := runK_ge isWrd s q
  have hle : wordK s q ≤ s.size := runK_le isWrd s q hq
  have HALL := hid (fun i (a : q ≤ i) (b : i < wordK s q) => (show isWrd (bAt s i) = true from runK_all a b))
  have HENDW := hid (show isWrd (bAt s (wordK s q)) = false from runK_end isWrd (by decide) s q)
  have hnk : numK s q (wordK s q) = digN s 10 q (wordK s q) := by unfold numK; rw [hx]; rfl
  have hnz : numZ s q = match digN s 10 q (wordK s q) with | some v => (v, wordK s q - q) | none => (0, 0) := by unfold numZ; rw [hnk] <;> rfl
  have hfe : q ≤ wordK s q := hge
  obtain ⟨e, he⟩ : ∃ e, wordK s q = e := ⟨_, rfl⟩
  rw [he] at hge hle HALL HENDW hnz hfe
  have HNZ := hid hnz
  obtain ⟨⟨rn, rz⟩, hr⟩ : ∃ r, numZ s q = r := ⟨_, rfl⟩
  rw [hr] at HNZ ⊢
  simp only
  have HDG := hid (show digN s 10 q e = if q < e then (match valGo s 10 (e - q) q 0 with | some v => if v ≤ mostN then some v else none | none => none) else none from rfl)
  clear h hqq hnz hnk he hr
  have i0 : ¬ (q : Int) + 1 < s.size := by omega
  clear hx
  go_enter Tryz.func29, Tryz.ntmps29
  go_wp2_with fail
  refine HBL.out.mono ?_
  rintro e1 w2 ⟨rfl, hl2, hk2⟩
  have HL2 := hid hl2
  have HK2 := hid hk2
  have a0 := Has.cell hl2 0
  have a1 := Has.cell hl2 1
  simp at a0 a1
  clear hl2 hk2
  go_wp2_with fail
  go_loopw [5, 7] (fun vt vn wr => ∃ j acc : Nat, j ≤ e ∧ q ≤ j ∧ vt = .int .i64 j ∧ vn = .int .u64 acc ∧ LxAt wr lb s q bad ∧ KT TL B w wr ∧ Hid (acc ≤ mostN) ∧ Hid (valGo s 10 (e - q) q 0 = valGo s 10 (e - j) j acc)) (fun vt _ _ => s.size - (intOf vt).toNat)
  case atStart => exact ⟨q, 0, hfe, Nat.le_refl _, rfl, rfl, HL2.out, HK2.out, hid (Nat.zero_le _), hid rfl⟩
  case round =>
    rename World => wr
    obtain ⟨j, acc, hje, hfj, rfl, rfl, hl, hkt, HM, HV⟩ := hrel
    have HL := hid hl
    have HK := hid hkt
    have c0 := Has.cell hl 0
    have c1 := Has.cell hl 1
    simp at c0 c1
    have hm := HM.out
    rw [mostN_val] at hm
    have hm1 : (acc : Int) ≤ 4611686018427387904 := by omega
    clear hl hkt a0 a1
    by_cases hlt : j < s.size
    · have hj1 : (j : Int) < s.size := by omega
      have hb := bAt_in hlt
      have hc256 : (s[j]'hlt).toNat < 256 := (s[j]'hlt).toNat_lt
      have HHX := hid (fun W => hex_any (s[j]'hlt).toNat hc256 W)
      have HLT := hid (fun W => rLet (s[j]'hlt).toNat hc256 W)
      have HDI := hid (fun W => rDig (s[j]'hlt).toNat hc256 W)
      have HB2 := hid hb
      have hex16 : digV (bAt s j) < 10 → hexI (s[j]'hlt).toNat = (digV (bAt s j) : Nat) := fun x => by unfold hexI; rw [← hb, if_pos (by omega)]
      have HWE := hid (fun (x : isWrd (bAt s j) = true) => (show j < e from by
        rcases Nat.lt_or_ge j e with c | c
        · exact c
        · obtain rfl : j = e := by omega
          rw [HENDW.out] at x; cases x))
      by_cases hv : digV (bAt s j) < 10
      · have hjl := HWE.out (dig_wrd (by decide) hv)
        have HN := hid (val_next (acc := acc) hjl hv)
        rw [hex16 hv] at HHX
        obtain ⟨v, hv'⟩ : ∃ v, digV (bAt s j) = v := ⟨_, rfl⟩
        rw [hv'] at HHX HN hv
        have v1 : (0 : Int) ≤ (v : Int) := by omega
        have v2 : (v : Int) < 10 := by omega
        have v3 : ¬ (v : Int) < 0 := by omega
        have v4 : (v : Int) ≤ 4611686018427387904 := by omega
        have HMV := HM
        by_cases hov : mostN < acc * 10 + v
        · have HZ : rn = 0 ∧ rz = 0 := by
            have h1 := HNZ.out
            have h2 : digN s 10 q e = none := by
              rw [HDG.out, if_pos (by omega), HV.out, HN.out]
              cases hx2 : valGo s 10 (e - (j + 1)) (j + 1) (acc * 10 + v) with
              | none => rfl
              | some u =>
                have := valGo_ge (by decide) _ _ _ u hx2
                show (if u ≤ mostN then some u else none) = none
                rw [if_neg (by omega)]
            rw [h2] at h1
            injection h1 with h3 h4
            exact ⟨h3, h4⟩
          rw [mostN_val] at hov
          have hq3 : (4611686018427387904 - (v : Int)) / 10 < acc := by omega
          obtain ⟨rfl, rfl⟩ := HZ
          clear hb hex16 hv' hov HMV
          go_wp2_with (first | (go_at_call 41; refine (HHX.out _).mono ?_; rintro e3 w3 ⟨rfl, rfl⟩) | (go_at_call 39; refine (HLT.out _).mono ?_; rintro e3 w3 ⟨rfl, rfl⟩) | (go_at_call 40; refine (HDI.out _).mono ?_; rintro e3 w3 ⟨rfl, rfl⟩))
          all_goals go_returns
          all_goals exact ⟨rfl, HL.out, HK.out⟩
        · have hov2 : acc * 10 + v ≤ 4611686018427387904 := by rw [mostN_val] at hov; omega
          have hq3 : (acc : Int) ≤ (4611686018427387904 - (v : Int)) / 10 := by omega
          have HV2 := hid (HV.out.trans HN.out)
          have HM2 := hid (show acc * 10 + v ≤ mostN by rw [mostN_val]; exact hov2)
          have hi2 : (acc : Int) * 10 + v ≤ 4611686018427387904 := by omega
          clear hb hex16 hv' hov HMV
          go_wp2_with (first | (go_at_call 41; refine (HHX.out _).mono ?_; rintro e3 w3 ⟨rfl, rfl⟩) | (go_at_call 39; refine (HLT.out _).mono ?_; rintro e3 w3 ⟨rfl, rfl⟩) | (go_at_call 40; refine (HDI.out _).mono ?_; rintro e3 w3 ⟨rfl, rfl⟩))
          all_goals exact ⟨⟨j + 1, acc * 10 + v, by omega, by omega, by go_num, by go_num, HL.out, HK.out, HM2, HV2⟩, by simp [intOf]; omega⟩
      · by_cases hv16 : digV (bAt s j) < 16
        · have hexv : hexI (s[j]'hlt).toNat = (digV (bAt s j) : Nat) := by unfold hexI; rw [← hb, if_pos hv16]
          rw [hexv] at HHX
          obtain ⟨v, hv'⟩ : ∃ v, digV (bAt s j) = v := ⟨_, rfl⟩
          rw [hv'] at HHX hv16
          have v0 : ¬ v < 10 := by rw [← hv']; exact hv
          have v1 : (0 : Int) ≤ (v : Int) := by omega
          have v2 : ¬ (v : Int) < 10 := by omega
          by_cases hjf : j = q
          · have hjf1 : (q : Int) = (j : Int) := by omega
            have HZ : rn = 0 ∧ rz = 0 := by
              have h1 := HNZ.out
              rw [dig_none hfj hje HV.out hv (.inl hjf)] at h1
              injection h1 with h3 h4
              exact ⟨h3, h4⟩
            obtain ⟨rfl, rfl⟩ := HZ
            clear hb hex16 hexv hv' hv16 v0 hjf
            go_wp2_with (first | (go_at_call 41; refine (HHX.out _).mono ?_; rintro e3 w3 ⟨rfl, rfl⟩) | (go_at_call 39; refine (HLT.out _).mono ?_; rintro e3 w3 ⟨rfl, rfl⟩) | (go_at_call 40; refine (HDI.out _).mono ?_; rintro e3 w3 ⟨rfl, rfl⟩))
            go_returns
            exact ⟨rfl, HL.out, HK.out⟩
          · have hjf1 : ¬ (j : Int) = (q : Int) := by omega
            exfalso
            omega
        · have hexm : hexI (s[j]'hlt).toNat = -1 := by unfold hexI; rw [← hb, if_neg hv16]
          rw [hexm] at HHX
          by_cases hjf : j = q
          · have hjf1 : (q : Int) = (j : Int) := by omega
            have HZ : rn = 0 ∧ rz = 0 := by
              have h1 := HNZ.out
              rw [dig_none hfj hje HV.out hv (.inl hjf)] at h1
              injection h1 with h3 h4
              exact ⟨h3, h4⟩
            obtain ⟨rfl, rfl⟩ := HZ
            clear hb hex16 hexm hv16 hjf
            go_wp2_with (first | (go_at_call 41; refine (HHX.out _).mono ?_; rintro e3 w3 ⟨rfl, rfl⟩) | (go_at_call 39; refine (HLT.out _).mono ?_; rintro e3 w3 ⟨rfl, rfl⟩) | (go_at_call 40; refine (HDI.out _).mono ?_; rintro e3 w3 ⟨rfl, rfl⟩))
            go_returns
            exact ⟨rfl, HL.out, HK.out⟩
          · have hjf1 : ¬ (j : Int) = (q : Int) := by omega
            exfalso
            omega
    · have hj1 : ¬ (j : Int) < s.size := by omega
      have hjeq : j = e := by omega
      by_cases hjf : j = q
      · have hjf1 : (q : Int) = (j : Int) := by omega
        have HZ : rn = 0 ∧ rz = 0 := by
          have h1 := HNZ.out
          rw [show digN s 10 q e = none from by rw [← hjeq, hjf]; exact dig_nil] at h1
          injection h1 with h3 h4
          exact ⟨h3, h4⟩
        obtain ⟨rfl, rfl⟩ := HZ
        clear hjf hjeq
        first
          | (exfalso; omega)
          | (go_wp2_with fail; go_returns; exact ⟨rfl, HL.out, HK.out⟩)
      · have hjf1 : ¬ (j : Int) = (q : Int) := by omega
        have HZ := hid (show (rn : Int) = acc ∧ (rz : Int) = (j : Int) - q from by
          have h1 := HNZ.out
          have hV := HV.out
          rw [hjeq] at hV
          rw [dig_all (by omega) hV HM.out] at h1
          injection h1 with h3 h4
          omega)
        clear hjf hjeq
        go_wp2_with fail
        go_quiet (fail)
        go_wp2
        go_returns
        exact ⟨by rw [HZ.out.1, HZ.out.2]; rfl, Has.drewN HL.out _, HK.out.drewN _⟩
end Go.Proofs.YtlilmidffcmkjaaGreatDoor
