/- lightest, at few nodes (contract of the function). -/
import Derived.Test.YtcacnidlfjglbaaHufLc
namespace Go.Proofs.Ytcacnidlfjglbaa
open Go.RowKit Go.Conc
set_option linter.unusedVariables false
theorem asc_any (B rb cap n : Nat) (N : List Nd) (hn : Hid (N.length = n)) (h2 : 2 ≤ n) (h19 : n < 20) (w : World) (hB : B ≤ w.heap.size) (h : w.ownsRow B 45 2 (.slice (some ⟨rb, 0, none⟩) n cap) n (ndCells N)) :
    Calls Try.prog 24 #[.slice (some ⟨rb, 0, none⟩) n cap] w fun e w' => e = .returned (.slice (some ⟨rb, 0, none⟩) n cap) ∧ w'.ownsRow B 45 2 (.slice (some ⟨rb, 0, none⟩) n cap) n (ndCells (sortL ndLt N)) ∧ Below B w w' := by
  have := asc_some B rb cap n N hn h2 h19 w hB h
  rwa [show sortA N = sortL ndLt N from sort_list ndLt N] at this
theorem own_take {w : World} {B t size g n n' cap : Nat} {xs : List Value} (h : w.ownsRow B t size (.slice (some ⟨g, 0, none⟩) n cap) n xs) (hn : n' ≤ n) : w.ownsRow B t size (.slice (some ⟨g, 0, none⟩) n' cap) n' (xs.take (n' * size)) := by
  have hl := h.1
  obtain ⟨cur, hg, hge, h1, h2, h3, h4⟩ := ownp_row h
  have hm : n' * size ≤ n * size := Nat.mul_le_mul_right _ hn
  refine ⟨by rw [List.length_take, hl]; omega, .inr ⟨g, cap, cur, rfl, hge, hg, by omega, h2, h3, ?_⟩⟩
  rw [← h4, List.take_take, Nat.min_eq_left hm]
theorem ndCells_take (N : List Nd) : ∀ n, (ndCells N).take (n * 2) = ndCells (N.take n) := by
  induction N with
  | nil => intro n; simp [ndCells]
  | cons x N ih =>
    intro n
    cases n with
    | zero => simp [ndCells]
    | succ n =>
      have e : ndCells (x :: N) = .int .i64 x.1 :: ndV x :: ndCells N := rfl
      rw [e, show (n + 1) * 2 = n * 2 + 1 + 1 by omega, List.take_succ_cons, List.take_succ_cons, ih n]
      rfl
set_option maxRecDepth 100000 in
set_option maxHeartbeats 8000000 in
theorem lightest_few (B0 g0 c0 n most : Nat) (N0 : List Nd) (M : List NdM) (hn : Hid (N0.length = n)) (h2 : 2 ≤ n) (h9 : n ≤ 9) (hm1 : 1 ≤ most) (hm15 : most ≤ 15) (hbd : ∀ m ∈ M, Bnd 0 m) (X : Nat → Prop) (w : World) (hX : ∀ g, X g → g < w.heap.size) (h : w.ownsRow B0 45 2 (.slice (some ⟨g0, 0, none⟩) n c0) n (ndCells N0)) (hM : NodesM X w N0 M)
    (hfit : 2 * n - 2 ≤ (lvlM M (most - 1)).length) :
    Calls Try.prog 18 #[.slice (some ⟨g0, 0, none⟩) n c0, .int .i64 most] w fun e w' => ∃ (v : Value) (N : List Nd), e = .returned v ∧ w'.ownsRow w.heap.size 45 2 v N.length (ndCells N) ∧ NodesM X w' N ((lvlM M (most - 1)).take (2 * n - 2)) ∧ Bw w w' := by
  have hlM : M.length = n := by rw [← hM.1]; exact hn.out
  have HLM := hid hlM
  have HO := hid h
  have HM := hid hM
  have HBD := hid hbd
  have HCL := hid (clone_nd B0 g0 c0 n (ndCells N0) (by omega) (by omega) (nd_one N0) w h)
  have hcap := ownp_cap h
  have HX := hid hX
  clear h hM hbd hlM hX
  go_enter Try.func18, Try.ntmps18
  go_wp2_with fail
  refine HCL.out.mono ?_
  rintro e w1 ⟨v, rfl, hv, hb⟩
  obtain ⟨r1, cp1, rfl⟩ := own_some hv (by omega)
  have HV1 := hid hv
  have HB1 := hid hb
  have hb1 := hb.size
  clear hv hb HCL
  go_wp2_with fail
  refine (asc_any w.heap.size r1 cp1 n N0 hn h2 (by omega) _ hb1 HV1.out).mono ?_
  rintro e w2 ⟨rfl, hv, hb⟩
  have HV2 := hid hv
  have HB2 := hid (show Bw w w2 from Below.trans HB1.out hb)
  have hb2 := HB2.out.size
  clear hv hb
  have HM2 := hid ((HM.out.bw HB2.out).sort)
  have HSL := hid (sortL_len ndLt N0)
  go_wp2_with fail
  go_loopw [5, 11] (fun v i wr => ∃ (k m rb cp : Nat) (N : List Nd), k ≤ most - 1 ∧ i = .int .i64 k ∧ v = .slice (some ⟨rb, 0, none⟩) m cp ∧ N.length = m ∧ n ≤ m ∧ m ≤ 2 * n ∧ wr.ownsRow w.heap.size 45 2 v m (ndCells N) ∧ NodesM X wr N (lvlM M k) ∧ Bw w wr) (fun _ i _ => most - (intOf i).toNat)
  case atStart => exact ⟨0, n, r1, cp1, sortL ndLt N0, Nat.zero_le _, rfl, rfl, by rw [HSL.out, hn.out], Nat.le_refl _, by omega, HV2.out, HM2.out, HB2.out⟩
  case round =>
    clear HV2 HB2 HM2 HB1 HV1
    obtain ⟨k, m, rb, cp, N, hk, rfl, rfl, hNm, hm1', hm2, hown, hMk, hbw⟩ := hrel
    have HV := hid hown
    have HMK := hid hMk
    have HBW := hid hbw
    have HNM := hid hNm
    have hbz := hbw.size
    have hcp := ownp_cap hown
    clear hown hMk hbw hNm
    by_cases hlt : k < most - 1
    · have hlti : (k : Int) < (most : Int) - 1 := by omega
      have hbk := lvlM_bnd M HBD.out k
      have hp15 : 2 ^ k ≤ 2 ^ 15 := Nat.pow_le_pow_right (by decide) (by omega)
      have HP := hid (pairs_any w.heap.size rb cp m N (lvlM M k) HNM (by omega) (fun x hx => by have := (hbk x hx).1; have h3 : 1099511627776 * 2 ^ k ≤ 1099511627776 * 2 ^ 15 := Nat.mul_le_mul_left _ hp15; omega) (fun x hx => by have := (hbk x hx).2; omega) X wr (fun g hg => Nat.lt_of_lt_of_le (HX.out g hg) hbz) hbz HV.out HMK.out)
      clear hbk hp15
      go_wp2_with fail
      refine HP.out.mono ?_
      rintro e w3 ⟨v3, N3, rfl, hv3, hM3, hb3⟩
      have hN3 : N3.length = m / 2 := by rw [hM3.1, prM_len, ← HMK.out.1, HNM.out]
      obtain ⟨m3, hm3⟩ : ∃ m3, N3.length = m3 := ⟨_, rfl⟩
      rw [hm3] at hv3 hN3
      have h31 : 1 ≤ m3 := by omega
      have h32 : m3 ≤ n := by omega
      clear hN3
      obtain ⟨r3, cp3, rfl⟩ := own_some hv3 (by omega)
      have HM3E := hid hm3
      have HV3 := hid hv3
      have HM3 := hid hM3
      have HB3 := hid (HBW.out.trans hb3)
      clear hv3 hM3 hb3 hm3 HP
      go_wp2_with fail
      have HA := hid (Has.new w3 40 #[.slice (some ⟨g0, 0, none⟩) n c0, .slice (some ⟨r3, 0, none⟩) m3 cp3])
      have HBA := hid (((Bw.refl w3).alloc (.cells #[.slice (some ⟨g0, 0, none⟩) n c0, .slice (some ⟨r3, 0, none⟩) m3 cp3] 40)))
      have hl0 : N0.length = n := hn.out
      refine (concat_nd w3.heap.size B0 g0 c0 n wr.heap.size r3 cp3 m3 (ndCells N0) (ndCells N3) (by omega) (by omega) (by omega) (nd_one N0) (nd_one N3) _ HA.out (HBA.out.own (HB3.out.own HO.out)) (HBA.out.own HV3.out)).mono ?_
      rintro e w4 ⟨v4, rfl, hv4, hb4⟩
      obtain ⟨r4, cp4, rfl⟩ := own_some hv4 (by omega)
      rw [← ndCells_append, World.size_alloc] at hv4
      have HV4 := hid hv4
      have HB4 := hid (HBA.out.trans hb4)
      have hb4z := hb4.size
      rw [World.size_alloc] at hb4z
      clear hv4 hb4 hl0
      have HN4 := hid (show (N0 ++ N3).length = n + m3 by rw [List.length_append, hn.out, HM3E.out])
      go_wp2_with fail
      have ha := asc_any (w3.heap.size + 1) r4 cp4 (n + m3) (N0 ++ N3) HN4 (by omega) (by omega) w4 hb4z HV4.out
      refine ha.mono ?_
      clear ha
      rintro e w5 ⟨rfl, hv5, hb5⟩
      have HV5 := hid hv5
      have HB5 := hid (show Bw w3 w5 from Below.trans HB4.out (Below.mono hb5 (by omega)))
      clear hv5 hb5
      have HM5 := hid ((((HM.out.bw HB3.out).bw HB5.out).append (HM3.out.bw HB5.out)).sort)
      have HS5 := hid (sortL_len ndLt (N0 ++ N3))
      have hw3 := HB3.out.size
      go_wp2
      go_roundw
      case rel => exact ⟨k + 1, n + m3, r4, cp4, sortL ndLt (N0 ++ N3), by omega, by go_num, rfl, by rw [HS5.out, HN4.out], by omega, by omega, own_base HV5.out (by omega), HM5.out, HB3.out.trans HB5.out⟩
      case measure => simp [intOf]; omega
    · have hke : k = most - 1 := by omega
      have hki : ¬ (k : Int) < (most : Int) - 1 := by omega
      have HKE := hid hke
      have hmk : m = (lvlM M k).length := by rw [← HMK.out.1]; exact HNM.out.symm
      have hf2 : 2 * n - 2 ≤ m := by rw [hmk, hke]; exact hfit
      have HT := hid (own_take HV.out hf2)
      have HNT := hid (HMK.out.take (2 * n - 2))
      have hl2 : (N.take (2 * n - 2)).length = 2 * n - 2 := by rw [List.length_take, HNM.out]; omega
      have HL2 := hid hl2
      have hcx : ((2 * n - 2 : Nat) : Int) = 2 * (n : Int) - 2 := by omega
      have hi1 : 2 * (n : Int) - 2 ≤ cp := by omega
      have hi2 : (0 : Int) ≤ 2 * (n : Int) - 2 := by omega
      have hi3 : (2 * (n : Int) - 2).toNat = 2 * n - 2 := by omega
      clear hke hmk hl2 hcx
      go_wp2
      go_ret
      refine ⟨_, rfl, N.take (2 * n - 2), ?_, ?_, HBW.out⟩
      · rw [HL2.out, ← ndCells_take]
        exact HT.out
      · rw [← HKE.out]; exact HNT.out
end Go.Proofs.Ytcacnidlfjglbaa
