/- The document's lexer: numbers (contracts of its function and method). -/
import Derived.Test.YtlilmidffcmkjaaGreatDoorRdX
import Derived.Test.YtlilmidffcmkjaaGreatDoorPrsG
namespace Go.Proofs.YtlilmidffcmkjaaGreatDoor
open Go.RowKit
set_option linter.unusedVariables false
set_option linter.unusedSimpArgs false
/-- A hexadecimal digit's number; -1: it is none. -/
def hexI (c : Nat) : Int := if digV c < 16 then (digV c : Nat) else -1
set_option maxRecDepth 100000 in
set_option maxHeartbeats 2000000 in
theorem hex_any (c : Nat) (hc : c < 256) (w : World) : Calls Tryz.prog 41 #[.int .u8 c] w fun e w' => e = .returned (.int .i64 (hexI c)) ∧ w' = w := by
  have HD := hid (rDig c hc w)
  by_cases h1 : 48 ≤ c ∧ c ≤ 57
  · have hd : isDig c = true := by unfold isDig; simp [h1]
    have HE := hid (show hexI c = (c : Int) - 48 from by unfold hexI digV; rw [hd, if_pos rfl, if_pos (by omega)]; omega)
    rw [hd] at HD
    have e1 : (48 : Int) ≤ c := by omega
    have e2 : (c : Int) ≤ 57 := by omega
    clear h1 hd
    go_enter Tryz.func41, Tryz.ntmps41
    go_wp2_with (go_at_call 40; refine HD.out.mono ?_; rintro e w2 ⟨rfl, rfl⟩)
    go_returns
    exact ⟨by rw [HE.out]; rfl, rfl⟩
  · have hd : isDig c = false := by unfold isDig; simp; omega
    rw [hd] at HD
    by_cases h2 : 97 ≤ c ∧ c ≤ 102
    · have HE := hid (show hexI c = (c : Int) - 97 + 10 from by unfold hexI digV; rw [hd, if_neg Bool.false_ne_true, if_pos h2, if_pos (by omega)]; omega)
      have e1 : (97 : Int) ≤ c := by omega
      have e2 : (c : Int) ≤ 102 := by omega
      clear h1 hd h2
      go_enter Tryz.func41, Tryz.ntmps41
      go_wp2_with (go_at_call 40; refine HD.out.mono ?_; rintro e w2 ⟨rfl, rfl⟩)
      go_returns
      exact ⟨by rw [HE.out]; rfl, rfl⟩
    · have HE := hid (show hexI c = -1 from by unfold hexI digV; rw [hd, if_neg Bool.false_ne_true, if_neg h2, if_neg (by decide)])
      by_cases h3 : 97 ≤ c
      · have e1 : (97 : Int) ≤ c := by omega
        have e2 : ¬ (c : Int) ≤ 102 := by omega
        clear h1 hd h2 h3
        go_enter Tryz.func41, Tryz.ntmps41
        go_wp2_with (go_at_call 40; refine HD.out.mono ?_; rintro e w2 ⟨rfl, rfl⟩)
        go_returns
        exact ⟨by rw [HE.out]; rfl, rfl⟩
      · have e1 : ¬ (97 : Int) ≤ c := by omega
        clear h1 hd h2 h3
        go_enter Tryz.func41, Tryz.ntmps41
        go_wp2_with (go_at_call 40; refine HD.out.mono ?_; rintro e w2 ⟨rfl, rfl⟩)
        go_returns
        exact ⟨by rw [HE.out]; rfl, rfl⟩
/-- A number and how long it is; 0: none. -/
def numZ (s : ByteArray) (q : Nat) : Nat × Nat := match numK s q (wordK s q) with | some v => (v, wordK s q - q) | none => (0, 0)
theorem dig_wrd {c b : Nat} (hb : b ≤ 16) (h : digV c < b) : isWrd c = true := by
  unfold digV at h
  unfold isWrd
  split at h
  · rename_i x; rw [x, Bool.or_true]
  · split at h
    · rename_i x
      have : isLet c = true := by unfold isLet; simp; omega
      rw [this]; rfl
    · omega
theorem valGo_ge {s : ByteArray} {b : Nat} (hb : 1 ≤ b) : ∀ f k a v, valGo s b f k a = some v → a ≤ v
  | 0, k, a, v, h => by injection h with h; omega
  | f + 1, k, a, v, h => by
    rw [valGo] at h
    split at h
    · have := valGo_ge hb f _ _ v h
      have : a * 1 ≤ a * b := Nat.mul_le_mul_left a hb
      omega
    · cases h
/-- What the digits so far leave to be read. -/
theorem val_next {s : ByteArray} {b e j acc : Nat} (hj : j < e) (hd : digV (bAt s j) < b) : valGo s b (e - j) j acc = valGo s b (e - (j + 1)) (j + 1) (acc * b + digV (bAt s j)) := by
  obtain ⟨f, hf⟩ : ∃ f, e - j = f + 1 := ⟨e - j - 1, by omega⟩
  rw [hf, valGo, if_pos hd, show e - (j + 1) = f by omega]
theorem val_stop {s : ByteArray} {b e j acc : Nat} (hj : j < e) (hd : ¬ digV (bAt s j) < b) : valGo s b (e - j) j acc = none := by
  obtain ⟨f, hf⟩ : ∃ f, e - j = f + 1 := ⟨e - j - 1, by omega⟩
  rw [hf, valGo, if_neg hd]
theorem dig_none {s : ByteArray} {b fr e j acc : Nat} (hfj : fr ≤ j) (hje : j ≤ e) (hV : valGo s b (e - fr) fr 0 = valGo s b (e - j) j acc) (hd : ¬ digV (bAt s j) < b) (hc : j = fr ∨ j < e) : digN s b fr e = none := by
  unfold digN
  by_cases h : fr < e
  · rw [if_pos h]
    have hj : j < e := by omega
    rw [hV, val_stop hj hd]
  · rw [if_neg h]
theorem dig_nil {s : ByteArray} {b fr : Nat} : digN s b fr fr = none := by
  unfold digN
  rw [if_neg (by omega)]
theorem dig_all {s : ByteArray} {b fr e acc : Nat} (hfe : fr < e) (hV : valGo s b (e - fr) fr 0 = valGo s b (e - e) e acc) (hm : acc ≤ mostN) : digN s b fr e = some acc := by
  unfold digN
  rw [if_pos hfe, hV, Nat.sub_self, valGo]
  show (if acc ≤ mostN then some acc else none) = some acc
  rw [if_pos hm]
set_option maxRecDepth 100000 in
set_option maxHeartbeats 16000000 in
theorem number_16 (B lb : Nat) (hB : B ≤ lb) (s : ByteArray) (hs : s.size ≤ 20000) (k : Nat) (hk : k ≤ s.size) (bad : Bool) (w : World) (h : LxAt w lb s k bad) (hx : hexB s (skipK s k) = true) :
    Calls Tryz.prog 29 #[.pointer (some ⟨lb, 0, none⟩)] w fun e w' => e = .returned (.tuple #[.int .u64 ((numZ s (skipK s k)).1 : Nat), .int .i64 ((numZ s (skipK s k)).2 : Nat)]) ∧ LxAt w' lb s (skipK s k) bad ∧ KT TL B w w' := by
  have HBL := hid (blank_any B lb hB s hs k hk bad w h)
  have hq : skipK s k ≤ s.size := runK_le isBlk s k hk
  obtain ⟨q, hqq⟩ : ∃ q, skipK s k = q := ⟨_, rfl⟩
  rw [hqq] at HBL hq hx ⊢
  have hge : q ≤ wordK s q := runK_ge isWrd s q
  have hle : wordK s q ≤ s.size := runK_le isWrd s q hq
  have HALL := hid (fun i (a : q ≤ i) (b : i < wordK s q) => (show isWrd (bAt s i) = true from runK_all a b))
  have HENDW := hid (show isWrd (bAt s (wordK s q)) = false from runK_end isWrd (by decide) s q)
  have hnk : numK s q (wordK s q) = digN s 16 (q + 2) (wordK s q) := by unfold numK; rw [hx]; rfl
  have hnz : numZ s q = match digN s 16 (q + 2) (wordK s q) with | some v => (v, wordK s q - q) | none => (0, 0) := by unfold numZ; rw [hnk] <;> rfl
  unfold hexB at hx
  simp only [Bool.and_eq_true, decide_eq_true_eq] at hx
  obtain ⟨x0, x1⟩ := hx
  have z0 : q < s.size := bAt_lt (by rw [x0]; decide)
  have z1 : q + 1 < s.size := bAt_lt (by rw [x1]; decide)
  have hfe : q + 2 ≤ wordK s q := by
    rcases Nat.lt_or_ge (wordK s q) (q + 2) with c | c
    · exfalso
      rcases (show wordK s q = q ∨ wordK s q = q + 1 by omega) with e | e
      · have := HENDW.out; rw [e, x0] at this; exact absurd this (by decide)
      · have := HENDW.out; rw [e, x1] at this; exact absurd this (by decide)
    · exact c
  have i0 : (q : Int) + 1 < s.size := by omega
  have i1 : (q : Int) < s.size := by omega
  have y0 := bAt_in z0
  have y1 := bAt_in z1
  rw [x0] at y0
  rw [x1] at y1
  have y0' := y0.symm
  have y1' := y1.symm
  clear x0 x1 y0 y1
  obtain ⟨e, he⟩ : ∃ e, wordK s q = e := ⟨_, rfl⟩
  rw [he] at hge hle HALL HENDW hnz hfe
  have HNZ := hid hnz
  obtain ⟨⟨rn, rz⟩, hr⟩ : ∃ r, numZ s q = r := ⟨_, rfl⟩
  rw [hr] at HNZ ⊢
  simp only
  have HDG := hid (show digN s 16 (q + 2) e = if (q + 2) < e then (match valGo s 16 (e - (q + 2)) (q + 2) 0 with | some v => if v ≤ mostN then some v else none | none => none) else none from rfl)
  clear h hqq hnz hnk he hr
  go_enter Tryz.func29, Tryz.ntmps29
  go_wp2_with fail
  refine HBL.out.mono ?_
  rintro e1 w2 ⟨rfl, hl2, hk2⟩
  have HL2 := hid hl2
  have HK2 := hid hk2
  have a0 := Has.cell hl2 0
  have a1 := Has.cell hl2 1
  simp at a0 a1
  clear hl2 hk2
  go_wp2_with fail
  go_loopw [5, 7] (fun vt vn wr => ∃ j acc : Nat, j ≤ e ∧ (q + 2) ≤ j ∧ vt = .int .i64 j ∧ vn = .int .u64 acc ∧ LxAt wr lb s q bad ∧ KT TL B w wr ∧ Hid (acc ≤ mostN) ∧ Hid (valGo s 16 (e - (q + 2)) (q + 2) 0 = valGo s 16 (e - j) j acc)) (fun vt _ _ => s.size - (intOf vt).toNat)
  case atStart => exact ⟨(q + 2), 0, hfe, Nat.le_refl _, by go_num, rfl, HL2.out, HK2.out, hid (Nat.zero_le _), hid rfl⟩
  case round =>
    rename World => wr
    obtain ⟨j, acc, hje, hfj, rfl, rfl, hl, hkt, HM, HV⟩ := hrel
    have HL := hid hl
    have HK := hid hkt
    have c0 := Has.cell hl 0
    have c1 := Has.cell hl 1
    simp at c0 c1
    have hm := HM.out
    rw [mostN_val] at hm
    have hm1 : (acc : Int) ≤ 4611686018427387904 := by omega
    clear hl hkt a0 a1
    by_cases hlt : j < s.size
    · have hj1 : (j : Int) < s.size := by omega
      have hb := bAt_in hlt
      have hc256 : (s[j]'hlt).toNat < 256 := (s[j]'hlt).toNat_lt
      have HHX := hid (fun W => hex_any (s[j]'hlt).toNat hc256 W)
      have HLT := hid (fun W => rLet (s[j]'hlt).toNat hc256 W)
      have HDI := hid (fun W => rDig (s[j]'hlt).toNat hc256 W)
      have HB2 := hid hb
      have hex16 : digV (bAt s j) < 16 → hexI (s[j]'hlt).toNat = (digV (bAt s j) : Nat) := fun x => by unfold hexI; rw [← hb, if_pos (by omega)]
      have HWE := hid (fun (x : isWrd (bAt s j) = true) => (show j < e from by
        rcases Nat.lt_or_ge j e with c | c
        · exact c
        · obtain rfl : j = e := by omega
          rw [HENDW.out] at x; cases x))
      by_cases hv : digV (bAt s j) < 16
      · have hjl := HWE.out (dig_wrd (by decide) hv)
        have HN := hid (val_next (acc := acc) hjl hv)
        rw [hex16 hv] at HHX
        obtain ⟨v, hv'⟩ : ∃ v, digV (bAt s j) = v := ⟨_, rfl⟩
        rw [hv'] at HHX HN hv
        have v1 : (0 : Int) ≤ (v : Int) := by omega
        have v2 : (v : Int) < 16 := by omega
        have v3 : ¬ (v : Int) < 0 := by omega
        have v4 : (v : Int) ≤ 4611686018427387904 := by omega
        have HMV := HM
        by_cases hov : mostN < acc * 16 + v
        · have HZ : rn = 0 ∧ rz = 0 := by
            have h1 := HNZ.out
            have h2 : digN s 16 (q + 2) e = none := by
              rw [HDG.out, if_pos (by omega), HV.out, HN.out]
              cases hx2 : valGo s 16 (e - (j + 1)) (j + 1) (acc * 16 + v) with
              | none => rfl
              | some u =>
                have := valGo_ge (by decide) _ _ _ u hx2
                show (if u ≤ mostN then some u else none) = none
                rw [if_neg (by omega)]
            rw [h2] at h1
            injection h1 with h3 h4
            exact ⟨h3, h4⟩
          rw [mostN_val] at hov
          have hq3 : (4611686018427387904 - (v : Int)) / 16 < acc := by omega
          obtain ⟨rfl, rfl⟩ := HZ
          clear hb hex16 hv' hov HMV
          go_wp2_with (first | (go_at_call 41; refine (HHX.out _).mono ?_; rintro e3 w3 ⟨rfl, rfl⟩) | (go_at_call 39; refine (HLT.out _).mono ?_; rintro e3 w3 ⟨rfl, rfl⟩) | (go_at_call 40; refine (HDI.out _).mono ?_; rintro e3 w3 ⟨rfl, rfl⟩))
          all_goals go_returns
          all_goals exact ⟨rfl, HL.out, HK.out⟩
        · have hov2 : acc * 16 + v ≤ 4611686018427387904 := by rw [mostN_val] at hov; omega
          have hq3 : (acc : Int) ≤ (4611686018427387904 - (v : Int)) / 16 := by omega
          have HV2 := hid (HV.out.trans HN.out)
          have HM2 := hid (show acc * 16 + v ≤ mostN by rw [mostN_val]; exact hov2)
          have hi2 : (acc : Int) * 16 + v ≤ 4611686018427387904 := by omega
          clear hb hex16 hv' hov HMV
          go_wp2_with (first | (go_at_call 41; refine (HHX.out _).mono ?_; rintro e3 w3 ⟨rfl, rfl⟩) | (go_at_call 39; refine (HLT.out _).mono ?_; rintro e3 w3 ⟨rfl, rfl⟩) | (go_at_call 40; refine (HDI.out _).mono ?_; rintro e3 w3 ⟨rfl, rfl⟩))
          all_goals exact ⟨⟨j + 1, acc * 16 + v, by omega, by omega, by go_num, by go_num, HL.out, HK.out, HM2, HV2⟩, by simp [intOf]; omega⟩
      · have hexm : hexI (s[j]'hlt).toNat = -1 := by unfold hexI; rw [← hb, if_neg hv]
        rw [hexm] at HHX
        by_cases hjf : j = (q + 2)
        · have hjf1 : (q : Int) + 2 = (j : Int) := by omega
          have HZ : rn = 0 ∧ rz = 0 := by
            have h1 := HNZ.out
            rw [dig_none hfj hje HV.out hv (.inl hjf)] at h1
            injection h1 with h3 h4
            exact ⟨h3, h4⟩
          obtain ⟨rfl, rfl⟩ := HZ
          clear hb hex16 hexm hjf
          go_wp2_with (first | (go_at_call 41; refine (HHX.out _).mono ?_; rintro e3 w3 ⟨rfl, rfl⟩) | (go_at_call 39; refine (HLT.out _).mono ?_; rintro e3 w3 ⟨rfl, rfl⟩) | (go_at_call 40; refine (HDI.out _).mono ?_; rintro e3 w3 ⟨rfl, rfl⟩))
          go_returns
          exact ⟨rfl, HL.out, HK.out⟩
        · have hjf1 : ¬ (j : Int) = (q : Int) + 2 := by omega
          cases hL : isLet (s[j]'hlt).toNat with
          | true =>
            rw [hL] at HLT
            have HZ : rn = 0 ∧ rz = 0 := by
              have h1 := HNZ.out
              rw [dig_none hfj hje HV.out hv (.inr (HWE.out (let_wrd (by rw [HB2.out]; exact hL))))] at h1
              injection h1 with h3 h4
              exact ⟨h3, h4⟩
            obtain ⟨rfl, rfl⟩ := HZ
            clear hb hex16 hexm hjf hL
            go_wp2_with (first | (go_at_call 41; refine (HHX.out _).mono ?_; rintro e3 w3 ⟨rfl, rfl⟩) | (go_at_call 39; refine (HLT.out _).mono ?_; rintro e3 w3 ⟨rfl, rfl⟩) | (go_at_call 40; refine (HDI.out _).mono ?_; rintro e3 w3 ⟨rfl, rfl⟩))
            go_returns
            exact ⟨rfl, HL.out, HK.out⟩
          | false =>
            rw [hL] at HLT
            cases hD : isDig (s[j]'hlt).toNat with
            | true =>
              rw [hD] at HDI
              have HZ : rn = 0 ∧ rz = 0 := by
                have h1 := HNZ.out
                rw [dig_none hfj hje HV.out hv (.inr (HWE.out (by unfold isWrd; rw [HB2.out, hD, Bool.or_true])))] at h1
                injection h1 with h3 h4
                exact ⟨h3, h4⟩
              obtain ⟨rfl, rfl⟩ := HZ
              clear hb hex16 hexm hjf hL hD
              go_wp2_with (first | (go_at_call 41; refine (HHX.out _).mono ?_; rintro e3 w3 ⟨rfl, rfl⟩) | (go_at_call 39; refine (HLT.out _).mono ?_; rintro e3 w3 ⟨rfl, rfl⟩) | (go_at_call 40; refine (HDI.out _).mono ?_; rintro e3 w3 ⟨rfl, rfl⟩))
              go_returns
              exact ⟨rfl, HL.out, HK.out⟩
            | false =>
              rw [hD] at HDI
              have hjeq : j = e := by
                rcases Nat.lt_or_ge j e with c | c
                · have hw := HALL.out j (by omega) c
                  unfold isWrd at hw
                  rw [HB2.out, hL, hD] at hw
                  cases hw
                · omega
              have HZ := hid (show (rn : Int) = acc ∧ (rz : Int) = (j : Int) - q from by
                have h1 := HNZ.out
                have hV := HV.out
                rw [hjeq] at hV
                rw [dig_all (by omega) hV HM.out] at h1
                injection h1 with h3 h4
                omega)
              clear hb hex16 hexm hjf hL hD hjeq
              go_wp2_with (first | (go_at_call 41; refine (HHX.out _).mono ?_; rintro e3 w3 ⟨rfl, rfl⟩) | (go_at_call 39; refine (HLT.out _).mono ?_; rintro e3 w3 ⟨rfl, rfl⟩) | (go_at_call 40; refine (HDI.out _).mono ?_; rintro e3 w3 ⟨rfl, rfl⟩))
              go_quiet (fail)
              go_wp2
              go_returns
              exact ⟨by rw [HZ.out.1, HZ.out.2]; rfl, Has.drewN HL.out _, HK.out.drewN _⟩
    · have hj1 : ¬ (j : Int) < s.size := by omega
      have hjeq : j = e := by omega
      by_cases hjf : j = (q + 2)
      · have hjf1 : (q : Int) + 2 = (j : Int) := by omega
        have HZ : rn = 0 ∧ rz = 0 := by
          have h1 := HNZ.out
          rw [show digN s 16 (q + 2) e = none from by rw [← hjeq, hjf]; exact dig_nil] at h1
          injection h1 with h3 h4
          exact ⟨h3, h4⟩
        obtain ⟨rfl, rfl⟩ := HZ
        clear hjf hjeq
        first
          | (exfalso; omega)
          | (go_wp2_with fail; go_returns; exact ⟨rfl, HL.out, HK.out⟩)
      · have hjf1 : ¬ (j : Int) = (q : Int) + 2 := by omega
        have HZ := hid (show (rn : Int) = acc ∧ (rz : Int) = (j : Int) - q from by
          have h1 := HNZ.out
          have hV := HV.out
          rw [hjeq] at hV
          rw [dig_all (by omega) hV HM.out] at h1
          injection h1 with h3 h4
          omega)
        clear hjf hjeq
        go_wp2_with fail
        go_quiet (fail)
        go_wp2
        go_returns
        exact ⟨by rw [HZ.out.1, HZ.out.2]; rfl, Has.drewN HL.out _, HK.out.drewN _⟩
end Go.Proofs.YtlilmidffcmkjaaGreatDoor
