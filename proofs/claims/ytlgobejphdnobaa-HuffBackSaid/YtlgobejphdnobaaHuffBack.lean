/- HuffBack returns true for every two lists of ints, and changes nothing that was there; no condition. -/
import Derived.Test.YtlgobejphdnobaaHufL0
import Derived.Test.YtlgobejphdnobaaHufBk
import Derived.Test.YtlgobejphdnobaaZsKit
import Derived.SizedLaws
import Derived.Test.YtlgobejphdnobaaHufV
import Derived.Laws.ShiftsVarLaws
import Derived.IntWalk
import Derived.ProofKit
import Derived.OpenShut
import Derived.ShutString
import Derived.ChangeOld
namespace Go.Proofs.Ytlgobejphdnobaa.huffBack
open Go.RowKit Go.ChangeShapes Go.WideShapes Go.ChangeAt
set_option linter.unusedVariables false
set_option maxRecDepth 100000 in
set_option maxHeartbeats 8000000 in
theorem walk (a : Option Addr) (len cap : Nat) (hb8 : len * 8 ≤ 140737488355328) (l : List Int) (hll : Hid (l.length = len)) (a2 : Option Addr) (len2 cap2 : Nat) (hb82 : len2 * 8 ≤ 140737488355328) (l2 : List Int) (hll2 : Hid (l2.length = len2)) (w : World) (hst : ZsAt w a l) (hst2 : ZsAt w a2 l2) :
    Calls Try.prog 7 #[.slice a len cap, .slice a2 len2 cap2] w fun e w' => e = .returned (.bool true) ∧ Bw w w' := by
  have HL := hid live_any
  have HST := hid hst
  have HSS := hid hst2
  have hls : len < 4611686018427387904 := by omega
  have hls2 : len2 < 4611686018427387904 := by omega
  by_cases hE : checkE l = 0
  · have hco := IsCode.of_check hE
    have HCO := hid hco
    have HEE := hid hE
    clear hst hst2 hE hco hb8 hb82
    obtain ⟨i0, hinf, hz0, hz1, hz2⟩ := info_parts intInfo
    go_enter Try.func7, Try.ntmps7
    go_wp2_with fail
    refine (codes_ok a len cap l hll HEE.out w HST.out).mono ?_
    rintro e w1 ⟨rb, rfl, hrb, hc, hb⟩
    have HC1 := hid hc
    have HB1 := hid hb
    clear hc hb
    go_wp2_with fail
    refine (new_ok a len cap l hll HEE.out w1 (HST.out.bw HB1.out)).mono ?_
    rintro e w2 ⟨tb, rfl, htb, hT, hb⟩
    have HT := hid hT
    have HC := hid (hb.has HC1.out)
    have HB := hid (HB1.out.trans hb)
    clear hT hb HC1 HB1
    go_wp2_with fail
    obtain ⟨W3, hW3⟩ : ∃ W, w2.alloc (.cells #[.int .i64 0, .slice none 0 0, .int .u8 0] 50) = W := ⟨_, rfl⟩
    have hS0 := BackAt.start hW3
    rw [hW3]
    obtain ⟨g, hg⟩ : ∃ g, w2.heap.size = g := ⟨_, rfl⟩
    rw [hg] at hS0 ⊢
    have HS0 := hid hS0
    clear hS0 hW3
    have HG := hid hg
    clear hg
    go_loopw [10, 11] (fun kv i wr => ∃ (n : Nat) (ks : List Nat) (F : Nat → Prop) (k N : Nat), n ≤ 200 ∧ n ≤ len2 ∧ i = .int .i64 n ∧ k ≤ 15 * n ∧ LayAt l N 0 ks k ∧ BackAt g w2 wr kv n ks F k N) (fun _ i _ => 200 - (intOf i).toNat)
    case atStart => exact ⟨0, [], _, 0, 0, by omega, Nat.zero_le _, rfl, Nat.zero_le _, rfl, HS0.out⟩
    case round =>
      obtain ⟨n, ks, F, k, N, hn, hn2, rfl, hk, hlay, hS⟩ := hrel
      obtain ⟨vo, vc, rfl⟩ := own_slice hS.row
      have hkn := hS.few
      have HS := hid hS
      have HLAY := hid hlay
      clear hS hlay
      rename World => wr
      by_cases hgo : n < len2 ∧ n < 200
      · obtain ⟨hlt, h200⟩ := hgo
        have hlti : (n : Int) < len2 := by omega
        have h200i : (n : Int) < 200 := by omega
        obtain ⟨b2, off2, rfl, hbl2, q2⟩ := HSS.out n (by rw [hll2.out]; exact hlt)
        have x2 := (World.cell?_of_block ((HB.out.trans HS.out.bw).block b2 hbl2)).trans q2
        generalize l2[n]'(by rw [hll2.out]; exact hlt) = z at *
        clear q2
        by_cases hz : z < 0
        · go_wp2
          go_roundw
          case rel => exact ⟨n + 1, ks, F, k, N, by omega, by omega, by go_num, by omega, HLAY.out, HS.out.skip⟩
          case measure => simp [intOf]; omega
        · by_cases hzl : (len : Int) ≤ z
          · go_wp2
            go_roundw
            case rel => exact ⟨n + 1, ks, F, k, N, by omega, by omega, by go_num, by omega, HLAY.out, HS.out.skip⟩
            case measure => simp [intOf]; omega
          · obtain ⟨x, rfl⟩ := Int.eq_ofNat_of_zero_le (show 0 ≤ z by omega)
            have hxl : x < len := by omega
            have hxi : (x : Int) < len := by omega
            have hnx : ¬ (len : Int) ≤ (x : Int) := by omega
            have hnx2 : ¬ len ≤ x := by omega
            have hxll : x < l.length := by rw [hll.out]; exact hxl
            obtain ⟨b, off, rfl, hbl, q0⟩ := HST.out x hxll
            have e0 : l[x] = ((lenF l x : Nat) : Int) := by rw [← (HCO.out.len x).2]; simp [List.getD, hxll]
            have x0 : wr.cell? ⟨b, off + x, none⟩ = some (.int .i64 (lenF l x : Nat)) := by rw [← e0]; exact (World.cell?_of_block ((HB.out.trans HS.out.bw).block b hbl)).trans q0
            have hm15 := (HCO.out.len x).1
            have hck : codeF l x < 32768 := by
              by_cases h0 : lenF l x = 0
              · rw [code_zero HCO.out h0]; decide
              · exact Nat.lt_of_lt_of_le (code_lt HCO.out (by omega)) (Nat.le_trans (Nat.pow_le_pow_right (by decide) hm15) (by decide))
            have HY := hid (show ∀ W, Bw w2 W → W.cell? ⟨rb, x, none⟩ = some (.int .i64 (codeF l x : Nat)) from fun W hW => by
              have h1 := (hW.has HC.out).cell x
              rw [cArr_get l len len x hxl, if_pos hxl] at h1
              exact h1)
            have HMO := hid (fun (hx : 0 < lenF l x) (hN : N < 2 ^ k) => layAt_more hN hx HLAY.out)
            clear q0 e0 hxll
            generalize lenF l x = m at *
            generalize codeF l x = c at *
            by_cases h0 : m = 0
            · have t0 : ((m : Int) == 0) = true := by simp [h0]
              clear HMO
              clear h0
              go_wp2
              go_roundw
              case rel => exact ⟨n + 1, ks, F, k, N, by omega, by omega, by go_num, by omega, HLAY.out, HS.out.skip⟩
              case measure => simp [intOf]; omega
            · have t0 : ((m : Int) == 0) = false := beq_eq_false_iff_ne.2 (by omega)
              have hNk : N < 2 ^ k := by obtain ⟨_, _, _, _, h4, _⟩ := HS.out.wrt; exact h4
              have HM := hid (HMO.out (by omega) hNk)
              obtain ⟨m1, hm1⟩ : ∃ m1, m = m1 + 1 := ⟨m - 1, by omega⟩
              have hw1 : IntKind.i64.wrap ((m : Int) - 1) = (m1 : Int) := by rw [IntWalk.i64_in _ (by omega)]; omega
              have HM1 := hid hm1
              clear HMO hNk hm1 h0
              go_wp2_with fail
              go_loopw [13] (fun bv wq => ∃ (j : Nat), ((j = m ∧ bv = .int .i64 (-1)) ∨ ∃ p : Nat, j + (p + 1) = m ∧ bv = .int .i64 p) ∧ WPost F g (k + j) (N + rvp c m j * 2 ^ k) wr wq) (fun bv _ => (intOf bv + 1).toNat)
              case atStart => exact ⟨0, .inr ⟨m1, by have := HM1.out; omega, rfl⟩, by simpa [rvp] using WPost.refl HS.out.wrt⟩
              case round =>
                obtain ⟨j, hj, hW⟩ := hrel
                rename World => wq
                have HW := hid hW
                clear hW
                rcases hj with ⟨hjm, rfl⟩ | ⟨p, hp, rfl⟩
                · have HJ := hid hjm
                  clear hjm
                  obtain ⟨F1, hS1⟩ := HS.out.put HW.out
                  have HS1 := hid hS1
                  clear hS1 HW
                  go_wp2_with (at_builtin; refine wpList_append_own_at _ rfl (.tmp 97) (.tmp 99) 22 rfl g 3 i0 (.int .i64 0) 1 8 Try.underlying22 hinf hz0 hz1 hz2 rfl (by decide) (.slice vo ks.length vc) ks.length (intCells ks) rfl (HS1.out.row.alloc _) ⟨wq.heap.size, 0, none⟩ 1 1 [.int .i64 x] rfl rfl (cell_one_new wq _ _) (by intro u hu; simp at hu; subst hu; rfl) (by unfold maxLen; omega) (by omega) (by have h1 := HS1.out.bw.size; have h2 := HS1.out.size; simp only [World.size_alloc]; omega) ?_; intro v5 w5 hown5 hgrow5 _ hat5; have HS5 := hid (HS1.out.app _ hgrow5 hown5 hat5); clear hown5 hgrow5 hat5)
                  go_roundw
                  case rel => exact ⟨n + 1, ks ++ [x], F1, k + m, _, by omega, by omega, by go_num, by omega, HM.out, by have h5 := HS5.out; rw [HJ.out] at h5; exact h5⟩
                  case measure => simp [intOf]; omega
                · have hp15 : p ≤ 15 := by omega
                  have y0 := HY.out wq (by obtain ⟨_, h1⟩ := HS.out.put HW.out; exact h1.bw)
                  have hcast : ((c : Int) / 2 ^ p).tmod 2 = ((c / 2 ^ p % 2 : Nat) : Int) := by
                    rw [show (c : Int) / 2 ^ p = ((c / 2 ^ p : Nat) : Int) by simp]
                    rfl
                  have hstep := put_step N k c m j p hp
                  have hk1 : k + j ≤ 1125899906842592 := by omega
                  have HP := hid hp
                  clear hp
                  have hPUT := put_more HW.out hk1 (c / 2 ^ p % 2) (Nat.mod_lt _ (by decide))
                  rw [← hcast, hstep] at hPUT
                  have HPUT := hid hPUT
                  clear hPUT hcast hstep
                  go_wp2_with fail
                  refine HPUT.out.mono ?_
                  rintro e w6 ⟨rfl, hP⟩
                  have HW6 := hid hP
                  clear hP HPUT HW
                  go_wp2
                  go_roundw
                  case rel =>
                    have hp := HP.out
                    by_cases hp0 : p = 0
                    · exact ⟨j + 1, .inl ⟨by omega, by subst hp0; rfl⟩, HW6.out⟩
                    · exact ⟨j + 1, .inr ⟨p - 1, by omega, by go_num⟩, HW6.out⟩
                  case measure => simp [intOf]
      · have hNk : N < 2 ^ k := by obtain ⟨_, _, _, _, h4, _⟩ := HS.out.wrt; exact h4
        have hWS := wstr_any F g k N (by omega) wr HS.out.wrt
        obtain ⟨s, hs, hk8, hbv, hss⟩ : ∃ s, strN N ((k + 7) / 8) = s ∧ k ≤ 8 * s.size ∧ (∀ i, bv s i 1 = N / 2 ^ i % 2) ∧ s.size ≤ 1000 := ⟨_, rfl, (back_text hNk).1, (back_text hNk).2, by rw [strN_size]; omega⟩
        rw [hs] at hWS
        have HWS := hid hWS
        have HBV := hid hbv
        clear hWS hs hbv hNk
        have hend : ¬ (n : Int) < len2 ∨ ((n : Int) < len2 ∧ ¬ (n : Int) < 200) := by omega
        clear hgo
        rcases hend with h1 | ⟨h1, h2⟩
        all_goals
          go_wp2_with fail
          refine HWS.out.mono ?_
          rintro e w5 ⟨rfl, hb⟩
          have HB5 := hid hb
          clear hb HWS
          go_wp2_with fail
          refine (newR_any s w5).mono ?_
          rintro e w6 ⟨rfl, hr, hb, hsz⟩
          have hRA : ReadAt g w2 w6 (.slice vo ks.length vc) ks F k N w5.heap.size s 0 := by
            have h5 := HB5.out.size
            have h6 := HS.out.bw.size
            have h7 := HS.out.size
            refine ⟨HS.out.bws (HB5.out.trans hb), hr, fun hf => ?_, fun hx => ?_, by omega⟩
            · obtain ⟨_, _, _, _, _, h8⟩ := HS.out.wrt
              have := h8 _ hf; omega
            · have := own_lt HS.out.row hx; omega
          obtain ⟨gr, hgr⟩ : ∃ gr, w5.heap.size = gr := ⟨_, rfl⟩
          rw [hgr] at hRA ⊢
          have HRA := hid hRA
          clear hRA hgr hr hb hsz
          go_wp2_with fail
          go_loopw [15] (fun i wq => ∃ (j p : Nat), j ≤ ks.length ∧ i = .int .i64 j ∧ LayAt l N p (ks.drop j) k ∧ ReadAt g w2 wq (.slice vo ks.length vc) ks F k N gr s p) (fun i _ => 200 - (intOf i).toNat)
          case atStart => exact ⟨0, 0, Nat.zero_le _, rfl, by simpa using HLAY.out, HRA.out⟩
          case round =>
            obtain ⟨j, p, hj, rfl, hlay, hRA⟩ := hrel
            rename World => wq
            have hpk := layAt_le hlay
            by_cases hlt : j < ks.length
            · have hlti : (j : Int) < (ks.length : Nat) := by omega
              obtain ⟨kb, kc, hv⟩ := own_some hRA.back.row (by omega)
              obtain ⟨rfl, rfl⟩ : vo = some ⟨kb, 0, none⟩ ∧ vc = kc := by simpa using hv
              rw [List.drop_eq_getElem_cons hlt] at hlay
              obtain ⟨e1, e2, e3⟩ := next_back HCO.out hk8 HBV.out hlay
              have hNX := next_any w1.heap.size tb gr l HCO.out s (by omega) p (by omega) wq (HT.out.bw hRA.back.bw) hRA.rd
              unfold NextPost at hNX
              rw [e1, e2, e3] at hNX
              have hcell : (intCells ks)[j]? = some (.int .i64 (ks[j] : Nat)) := by simp [intCells, hlt]
              have HNX := hid hNX
              have HNL := hid hlay.2.2
              have HRQ := hid hRA
              have HCELL := hid hcell
              clear hNX hlay hRA e1 e2 e3 hv hcell
              generalize ks[j] = x at *
              generalize lenF l x = m at *
              go_wp2_with fail
              refine HNX.out.mono ?_
              rintro e w8 ⟨rfl, hr8, hk8'⟩
              have hR8 := HRQ.out.step hr8 hk8'
              have c0 := ownp_cell hR8.back.row HCELL.out
              have HR8 := hid hR8
              clear hR8 hr8 hk8' HNX
              have f1 : ((x : Int) != (x : Int)) = false := by simp
              go_wp2
              go_roundw
              case rel => exact ⟨j + 1, p + m, by omega, by go_num, HNL.out, HR8.out⟩
              case measure => simp [intOf]; omega
            · have hnj : ¬ (j : Int) < (ks.length : Nat) := by omega
              have hpk2 : p = k := by
                rw [List.drop_eq_nil_of_le (by omega)] at hlay
                exact hlay
              subst hpk2
              have HRQ := hid hRA
              clear hlay hRA
              go_wp2_with fail
              refine (at_any gr s p _ HRQ.out.rd).mono ?_
              rintro e w8 ⟨rfl, rfl⟩
              go_wp2_with fail
              refine (wlen_any F g p N _ HRQ.out.back.wrt).mono ?_
              rintro e w8 ⟨rfl, rfl⟩
              have f1 : ((p : Int) == (p : Int)) = true := by simp
              go_wp2_with fail
              refine (HL.out _).mono ?_
              rintro e w9 ⟨rfl, hb9⟩
              have HB9 := hid ((HB.out.trans HRQ.out.back.bw).trans hb9)
              clear hb9
              go_wp2
              go_returns
              exact ⟨rfl, HB9.out⟩
  · have hne : (checkE l != 0) = true := by simpa using hE
    have HC := hid (fun W h => codes_bad a len cap l hll hE W h)
    have HN := hid (fun W h => new_bad a len cap l hll hE W h)
    generalize checkE l = ce at *
    have hce : (ce == ce) = true := by simp
    clear hst hst2 hE
    go_enter Try.func7, Try.ntmps7
    go_wp2_with fail
    refine (HC.out w HST.out).mono ?_
    rintro e w1 ⟨rfl, hb⟩
    have HB1 := hid hb
    clear hb
    go_wp2_with fail
    refine (HN.out w1 (HST.out.bw HB1.out)).mono ?_
    rintro e w2 ⟨rfl, hb⟩
    have HB2 := hid (HB1.out.trans hb)
    clear hb
    go_wp2_with fail
    refine (HL.out _).mono ?_
    rintro e w4 ⟨rfl, hb⟩
    have HB4 := hid (HB2.out.trans hb)
    clear hb
    go_wp2
    go_returns
    exact ⟨rfl, HB4.out⟩

/-! The frame: from the walk to the statement. -/
theorem own : ownKnob Try.prog.godebug = none := by kernel_rfl
theorem laidOut : laidOutB Try.prog = true := by kernel_rfl
set_option maxRecDepth 100000 in
theorem lifted (os : Os) (started : os.Started) (H : Type) (enc : TypeId × Value → H) :
    ReturnsInHanded {} Try.checked os 7 .any (Rows.huffBackSpec.pre6 enc Try.prog Try.f7 Rows.huffBackRow.domain false) (Rows.huffBackSpec.post enc Try.prog Try.f7 false true false false) := by
  refine returnsInHanded_of_change_sized (C := Try.checked) own started (by kernel_rfl) Try.func7
    (ChangeSpec.witness6 (enc := enc) (C := Try.checked) false ⟨#[], #[.slice none 0 0, .slice none 0 0], []⟩ 8 (by kernel_rfl) (by kernel_rfl) (by kernel_rfl) (by kernel_rfl)) ?_
  intro W base args ds gs before hval0 hW hcnd hsz0 _
  have hval : ∀ (j : Nat) t v, Try.f7.params[j]? = some t → args[j]? = some v → Value.okWide Try.prog W .any base t v := hval0
  have hW' := hW
  obtain ⟨p, q, hA0, hV, rfl, hfz, hnd⟩ := hW
  have hA : DataW.TrodAll enc Try.prog W 0 (fun _ => true) true Try.f7.params.toList args.toList ds p := hA0
  have hsz : (DataW.weightsEach Try.prog (Try.f7.params.toList ++ Rows.huffBackSpec.plain.varTypes Try.prog) (ds ++ gs)).all (· ≤ reachBytes) = true := hsz0
  rw [Try.params7] at hA hval hsz
  obtain ⟨v0, vs0, d0, ds0, p0, q0, hargs, rfl, rfl, h0, r0⟩ := trodAll_cons hA
  obtain ⟨v1, vs1, d1, ds1, p1, q1, rfl, rfl, rfl, h1, r1⟩ := trodAll_cons r0
  obtain ⟨rfl, rfl, rfl⟩ := trodAll_nil r1
  obtain rfl : args = #[v0, v1] := by cases args; simp_all
  obtain ⟨rfl, rfl⟩ := trodVars_none hV
  have k0 := h0
  have lt0 : ∀ x ∈ p0, x.block < W.heap.size := by obtain ⟨m, hm⟩ := k0; exact DataW.trod_lt m _ _ _ hm
  obtain ⟨oa0, ol0, oc0, rfl⟩ := okWide_slice Try.underlying22 (hval 0 22 v0 rfl rfl)
  obtain ⟨m0, t0⟩ := h0
  obtain ⟨A0, len0, cap0, l0, he0, hl0, hll0, hN0, hst0⟩ := open_zs t0
  have k1 := h1
  have lt1 : ∀ x ∈ p1, x.block < W.heap.size := by obtain ⟨m, hm⟩ := k1; exact DataW.trod_lt m _ _ _ hm
  obtain ⟨oa1, ol1, oc1, rfl⟩ := okWide_slice Try.underlying22 (hval 1 22 v1 rfl rfl)
  obtain ⟨m1, t1⟩ := h1
  obtain ⟨A1, len1, cap1, l1, he1, hl1, hll1, hN1, hst1⟩ := open_zs t1
  rw [he0] at hW' k0 t0 ⊢
  rw [he1] at hW' k1 t1 ⊢
  clear hA0 hval0
  try simp only [List.append_nil] at hW'
  refine (walk A0 len0 cap0 (zs_len hsz (j := 0) rfl rfl t0) l0 (hid hll0) A1 len1 cap1 (zs_len hsz (j := 1) rfl rfl t1) l1 (hid hll1) W hst0 hst1).mono fun e W' ⟨he, bel⟩ => ?_
  subst he
  exact ⟨_, rfl, _, _, _, [], _, [], hW', trodAll_mk1 (shut_bool Try.underlying4 _), (trodAll_cons_mk (Below.trod laidOut (by kernel_rfl) (of_decide_eq_true (by kernel_rfl)) k0 bel lt0) (trodAll_cons_mk (Below.trod laidOut (by kernel_rfl) (of_decide_eq_true (by kernel_rfl)) k1 bel lt1) trodAll_mk0)), rfl, Below.frame bel _, fun h => by cases h⟩

theorem proved : Rows.HuffBackSaid :=
  OpenClaim.holds_of_wide 7 Try.f7 rfl rfl rfl rfl rfl rfl rfl ⟨rfl, rfl, rfl, rfl, rfl⟩ rfl rfl rfl rfl rfl (by kernel_rfl) Try.func7 (by kernel_rfl)
    (of_decide_eq_true (by kernel_rfl)) (by unfold Func.isWrapper; first | (rw [if_pos (by decide +kernel)]; kernel_rfl) | (rw [if_neg (by decide +kernel)]; exact ⟨rfl, rfl⟩))
    (fun os started H enc _ => lifted os started H enc)
end Go.Proofs.Ytlgobejphdnobaa.huffBack
