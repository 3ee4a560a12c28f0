/- What the first twelve bytes are, and the chunk at a place (contracts of the functions). -/
import Derived.Test.YtgkgimfdbkpbdaaDoorWavC
import Derived.Deep.RegionHeld3
import Derived.StillTailTactics
import Derived.Deep.DeepCutAuto
namespace Go.Proofs.YtgkgimfdbkpbdaaDoor
open Go.RowKit
set_option linter.unusedVariables false
set_option linter.unusedSimpArgs false
theorem sub_in (b : Nat) (hb : b ≤ 281474976710656) (s : ByteArray) (hs : s.size ≤ lim) (p k : Nat) (h : p + k ≤ s.size) (w : World) :
    Calls Tryd.prog 40 #[.agg #[.int .i64 b, .string s], .int .i64 p, .int .i64 k] w fun e w' => e = .returned (.tuple #[.agg #[.int .i64 (b + p : Nat), .string (s.extract p (p + k))], .int .i64 0]) ∧ Bw w w' := by
  have h0 : subE s.size p k = 0 := subE_ok (by omega) (by omega)
  have := sub_any (b : Int) (by omega) (by omega) s hs (p : Nat) (k : Nat) w
  rw [h0, subS_ok h0, subB_ok h0] at this
  simpa using this
theorem sub_out (b : Nat) (hb : b ≤ 281474976710656) (s : ByteArray) (hs : s.size ≤ lim) (p k : Nat) (h : s.size < p + k) (w : World) :
    Calls Tryd.prog 40 #[.agg #[.int .i64 b, .string s], .int .i64 p, .int .i64 k] w fun e w' => e = .returned (.tuple #[.agg #[.int .i64 0, .string ⟨#[]⟩], .int .i64 2]) ∧ Bw w w' := by
  have h0 : subE s.size p k = 2 := subE_cut (by omega) (by omega)
  have := sub_any (b : Int) (by omega) (by omega) s hs (p : Nat) (k : Nat) w
  rw [h0, subS_bad (by rw [h0]; decide), subB_bad (by rw [h0]; decide)] at this
  exact this
theorem pre_riff (s : ByteArray) (h : 12 ≤ s.size) : Lib.hasPrefix (s.extract 0 12).data.toList [82, 73, 70, 70] = decide (s.extract 0 4 = riffT) := by
  have e : (s.extract 0 12).data.toList.take 4 = (s.extract 0 4).data.toList := by
    rw [ext_list, ext_list, List.take_take]
    rfl
  rw [Bool.eq_iff_iff, decide_eq_true_eq]
  unfold Lib.hasPrefix
  rw [List.isPrefixOf_iff_prefix, List.prefix_iff_eq_take]
  show [82, 73, 70, 70] = (s.extract 0 12).data.toList.take 4 ↔ _
  rw [e]
  constructor
  · intro h
    exact ba_ext h.symm
  · intro h
    rw [h]; rfl
set_option maxRecDepth 100000 in
set_option maxHeartbeats 8000000 in
theorem formOf_any (s : ByteArray) (hs : s.size ≤ 100000000) (w : World) :
    Calls Tryd.prog 21 #[.agg #[.int .i64 0, .string s]] w fun e w' => e = .returned (.tuple #[.string (if headE s = 0 then s.extract 8 12 else ⟨#[]⟩), .int .i64 (headE s)]) ∧ Bw w w' := by
  have hl : s.size ≤ lim := by unfold lim; omega
  have HN := hid (Has.new w 45 #[.int .i64 0, .string s])
  have HB := hid ((Bw.refl w).alloc (.cells #[.int .i64 0, .string s] 45))
  by_cases h12 : s.size < 12
  · have HE := hid (show headE s = 2 from if_pos h12)
    have HS := hid (fun W => sub_out 0 (by omega) s hl 0 12 (by omega) W)
    have n0 := HN.out.cell 0
    have n1 := HN.out.cell 1
    simp at n0 n1
    rw [HE.out]
    go_enter Tryd.func21, Tryd.ntmps21
    go_wp2_with fail
    refine (HS.out _).mono ?_
    rintro e w2 ⟨rfl, hb2⟩
    have HB2 := hid (HB.out.trans hb2)
    go_wp2
    go_returns
    have k2 := HB2.out.size
    exact ⟨rfl, by have := HB2.out; unfold Bw at this ⊢; go_grown⟩
  · have HS := hid (fun W => sub_in 0 (by omega) s hl 0 12 (by omega) W)
    have hlz : (s.extract 0 12).size = 12 := by simp; omega
    have HTX := hid (fun W => text_any 0 (s.extract 0 12) (by rw [hlz]; decide) W)
    have HHP := hid (fun W => lib_HasPrefix (s.extract 0 12) ⟨#[82, 73, 70, 70]⟩ W)
    have HUI := hid (fun W => uint4_any (s.extract 0 12) (by rw [hlz]; decide) 4 (by omega) 0 (by omega) W)
    have HLN := hid (fun W => len_any 0 s hl W)
    have HX8 := hid (show (s.extract 0 12).extract 8 12 = s.extract 8 12 from by
      apply ba_ext
      rw [ext_list, ext_list, ext_list, List.drop_take, List.take_take, List.drop_zero]
      rfl)
    have HN4 := hid (show num4 (s.extract 0 12) 4 = num4 s 4 from by
      unfold num4 numAt
      refine horn_congr 4 fun i hi => ?_
      simp only [dig, Bool.false_eq_true, if_false]
      have := bt_extract s 0 12 (4 + 4 - 1 - i) (by omega) (by omega)
      rw [Nat.zero_add, Nat.zero_add] at this
      exact this)
    have HPR := hid (pre_riff s (by omega))
    have HFT := hid (fun W => isType_any (s.extract 8 12) (by simp; omega) W)
    obtain ⟨L, hL⟩ : ∃ L, s.extract 0 12 = L := ⟨_, rfl⟩
    obtain ⟨fm, hfm⟩ : ∃ fm, s.extract 8 12 = fm := ⟨_, rfl⟩
    have hnl := num4_lt s 4
    obtain ⟨n, hn⟩ : ∃ n, num4 s 4 = n := ⟨_, rfl⟩
    have HHE := hid (show headE s = if s.extract 0 4 ≠ riffT ∨ typB fm = false then 3 else if s.size - 8 < n then 2 else if n < s.size - 8 then 3 else 0 from by
      unfold headE
      rw [if_neg h12, hfm, hn])
    rw [hL] at HS HTX HHP HUI hlz HX8 HN4 HPR
    rw [hfm] at HX8 HFT ⊢
    rw [hn] at HN4 hnl
    rw [HN4.out] at HUI
    have HPR2 := hid (show Lib.hasPrefix L.data.toList (⟨#[82, 73, 70, 70]⟩ : ByteArray).data.toList = decide (s.extract 0 4 = riffT) from HPR.out)
    rw [HPR2.out] at HHP
    clear hL hfm hn HN4 HPR HPR2
    have hbs : ((s.size : Int) - 8) = ((s.size - 8 : Nat) : Int) := by omega
    obtain ⟨E, hE⟩ : ∃ E, headE s = E := ⟨_, rfl⟩
    rw [hE] at HHE ⊢
    obtain ⟨R, hR⟩ : ∃ R, (if E = 0 then fm else (⟨#[]⟩ : ByteArray)) = R := ⟨_, rfl⟩
    rw [hR]
    have HRR := hid hR
    clear hE hR
    go_enter Tryd.func21, Tryd.ntmps21
    go_wp2_with fail
    refine (HS.out _).mono ?_
    rintro e w2 ⟨rfl, hb2⟩
    have HB2 := hid (HB.out.trans hb2)
    have HNB := hid (hb2.has HN.out)
    clear hb2
    have HB3 := hid (HB2.out.alloc (.cells #[.int .i64 0, .string L] 45))
    have HL3 := hid (Has.new w2 45 #[.int .i64 0, .string L])
    have HN3 := hid (HNB.out.alloc (.cells #[.int .i64 0, .string L] 45))
    go_wp2_with fail
    obtain ⟨gl, hgl⟩ : ∃ gl, w2.heap.size = gl := ⟨_, rfl⟩
    rw [hgl] at HL3
    clear HNB
    generalize w2.alloc (.cells #[.int .i64 0, .string L] 45) = w3 at *
    refine (HTX.out _).mono ?_
    rintro e w4 ⟨rfl, hb4⟩
    have HB4 := hid (HB3.out.trans hb4)
    have HL4 := hid (hb4.has HL3.out)
    have HN4 := hid (hb4.has HN3.out)
    clear hb4 HB3 HL3 HN3
    have l0 := HL4.out.cell 0
    have l1 := HL4.out.cell 1
    simp at l0 l1
    go_wp2_with fail
    rw [HX8.out]
    refine (HTX.out _).mono ?_
    rintro e w5 ⟨rfl, hb5⟩
    have HB5 := hid (HB4.out.trans hb5)
    have HL5 := hid (hb5.has HL4.out)
    have HN5 := hid (hb5.has HN4.out)
    clear hb5 HB4 HL4 HN4 l0 l1 HTX HX8
    go_wp2_with fail
    refine (HHP.out _).mono ?_
    rintro e w6 ⟨rfl, rfl⟩
    by_cases hrf : s.extract 0 4 = riffT
    · rw [decide_eq_true hrf]
      cases htf : typB fm with
      | true =>
        rw [htf] at HFT HHE
        have l0 := HL5.out.cell 0
        have l1 := HL5.out.cell 1
        simp at l0 l1
        go_wp2_with fail
        refine (HFT.out _).mono ?_
        rintro e w7 ⟨rfl, hb7⟩
        have HB7 := hid (HB5.out.trans hb7)
        have HL7 := hid (hb7.has HL5.out)
        have HN7 := hid (hb7.has HN5.out)
        clear hb7 HB5 HL5 HN5 l0 l1
        have l0 := HL7.out.cell 0
        have l1 := HL7.out.cell 1
        simp at l0 l1
        go_wp2_with fail
        refine (HUI.out _).mono ?_
        rintro e w8 ⟨rfl, hb8⟩
        have HB8 := hid (HB7.out.trans hb8)
        have HN8 := hid (hb8.has HN7.out)
        clear hb8 HB7 HL7 HN7 l0 l1
        have n0 := HN8.out.cell 0
        have n1 := HN8.out.cell 1
        simp at n0 n1
        go_wp2_with fail
        refine (HLN.out _).mono ?_
        rintro e w9 ⟨rfl, hb9⟩
        have HB9 := hid (HB8.out.trans hb9)
        clear hb9 HB8 HN8 n0 n1
        obtain ⟨z, hz⟩ : ∃ z, s.size - 8 = z := ⟨_, rfl⟩
        rw [hz] at hbs HHE
        have hz2 : (s.size : Int) - 8 = (z : Int) := hbs
        have hz9 : z ≤ 100000000 := by omega
        clear hbs hz
        by_cases c1 : z < n
        · have HV0 : E = 2 := by rw [HHE.out, if_neg (by simp [hrf]), if_pos c1]
          have HV := hid (show E = 2 ∧ R = ⟨#[]⟩ from ⟨HV0, by rw [← HRR.out, HV0]; rfl⟩)
          clear HV0
          have d1 : (z : Int) < n := by omega
          clear HHE
          go_wp2
          go_returns
          exact ⟨by rw [HV.out.1, HV.out.2]; rfl, HB9.out⟩
        · by_cases c2 : n < z
          · have HV0 : E = 3 := by rw [HHE.out, if_neg (by simp [hrf]), if_neg c1, if_pos c2]
            have HV := hid (show E = 3 ∧ R = ⟨#[]⟩ from ⟨HV0, by rw [← HRR.out, HV0]; rfl⟩)
            clear HV0
            have d1 : ¬ (z : Int) < n := by omega
            have d2 : (n : Int) < z := by omega
            clear HHE
            go_wp2
            go_returns
            exact ⟨by rw [HV.out.1, HV.out.2]; rfl, HB9.out⟩
          · have HV0 : E = 0 := by rw [HHE.out, if_neg (by simp [hrf]), if_neg c1, if_neg c2]
            have HV := hid (show E = 0 ∧ R = fm from ⟨HV0, by rw [← HRR.out, HV0]; rfl⟩)
            clear HV0
            have d1 : ¬ (z : Int) < n := by omega
            have d2 : ¬ (n : Int) < z := by omega
            clear HHE
            go_wp2
            go_returns
            exact ⟨by rw [HV.out.1, HV.out.2]; rfl, HB9.out⟩
      | false =>
        have HV0 : E = 3 := by rw [HHE.out, if_pos (.inr htf)]
        have HV := hid (show E = 3 ∧ R = ⟨#[]⟩ from ⟨HV0, by rw [← HRR.out, HV0]; rfl⟩)
        clear HV0
        rw [htf] at HFT
        clear HHE
        go_wp2_with fail
        refine (HFT.out _).mono ?_
        rintro e w7 ⟨rfl, hb7⟩
        have HB7 := hid (HB5.out.trans hb7)
        clear hb7
        go_wp2
        go_returns
        exact ⟨by rw [HV.out.1, HV.out.2]; rfl, HB7.out⟩
    · have HV0 : E = 3 := by rw [HHE.out, if_pos (.inl hrf)]
      have HV := hid (show E = 3 ∧ R = ⟨#[]⟩ from ⟨HV0, by rw [← HRR.out, HV0]; rfl⟩)
      clear HV0
      rw [decide_eq_false hrf]
      clear HHE
      go_wp2
      go_returns
      exact ⟨by rw [HV.out.1, HV.out.2]; rfl, HB5.out⟩
end Go.Proofs.YtgkgimfdbkpbdaaDoor
