/- The document's Cost (contract of the function). -/
import Derived.Test.YthegehgjpehfkaaMatI
import Derived.Test.YthegehgjpehfkaaMatF
import Derived.Test.YthegehgjpehfkaaMatC
namespace Go.Proofs.Ythegehgjpehfkaa
open Go.RowKit
set_option linter.unusedVariables false
theorem litF_byte : ∀ x : Fin 256, litC x.val = (litF x.val : Nat) := by decide +kernel
theorem litF_le : ∀ x : Fin 286, litF x.val ≤ 9 := by decide +kernel
theorem lenS_ok (n : Nat) (h0 : 3 ≤ n) (h1 : n ≤ 258) : lenC n = litF (lenS n) + lenX (lenS n) ∧ 257 ≤ lenS n ∧ lenS n ≤ 285 := by
  have := len_ok ⟨n - 3, by omega⟩
  simp only at this
  rwa [show n - 3 + 3 = n by omega] at this
set_option maxRecDepth 100000 in
set_option maxHeartbeats 4000000 in
theorem rcost_any (a : Option Addr) (len cap : Nat) (hlen : len ≤ 1000000) (l : List TokR) (hll : Hid (l.length = len)) (w : World) (hst : ToksAt w a l) :
    Calls Try.prog 13 #[.slice a len cap] w fun e w' => e = .returned (.tuple #[.int .i64 (costV l), .int .i64 (costE l)]) ∧ Bw w w' := by
  have HFX := hid (fixed_any w)
  have HST := hid hst
  clear hst
  go_enter Try.func13, Try.ntmps13
  go_wp2_with fail
  refine HFX.out.mono ?_
  rintro e w1 ⟨g1, g2, rfl, hg1, hg2, hw1⟩
  have HG1 := hid hg1
  have HG2 := hid hg2
  have HW1 := hid hw1
  have HST1 := hid (HST.out.below hw1)
  clear hg1 hg2 hw1 HFX HST
  go_wp2
  go_loopw [6, 7] (fun c i wr => ∃ k : Nat, k ≤ len ∧ i = .int .i64 k ∧ c = .int .i64 (costGo (l.take k)) ∧ Hid (costOk (l.take k) = true) ∧ Bw w1 wr) (fun _ i _ => len - (intOf i).toNat)
  case atStart => exact ⟨0, Nat.zero_le _, rfl, rfl, hid rfl, Bw.refl w1⟩
  case round =>
    rename World => wr
    obtain ⟨k, hk, rfl, rfl, HOK, hbw⟩ := hrel
    have hcl := costGo_le _ HOK.out
    have HBW := hid hbw
    by_cases hlt : k < len
    · have hkl : k < l.length := by rw [hll.out]; exact hlt
      have hk1 : (k : Int) < len := by omega
      obtain ⟨b, off, rfl, hb, c0, c1, c2, hv⟩ := HST1.out.below hbw k hkl
      have HN := hid (costGo_next hkl)
      have HO := hid (costOk_next hkl HOK.out)
      have HBAD := hid (fun h => costOk_bad hkl h)
      have hll2 : (l.take k).length ≤ 1000000 := by rw [List.length_take]; omega
      have hcl2 : costGo (l.take k) ≤ 31000007 := by have := hcl.2; omega
      have hcl1 := hcl.1
      generalize costGo (l.take k) = c at *
      obtain ⟨x0, x1, x2, hx⟩ : ∃ x0 x1 x2, l[k] = ⟨x0, x1, x2⟩ := ⟨_, _, _, rfl⟩
      rw [hx] at c0 c1 c2 hv HN HO HBAD
      simp only at c0 c1 c2
      have hv : x0 < 256 := hv
      clear hx hkl hll2 hbw hcl
      have HB := hid (fun W => may_any x0 x1 x2 W)
      have HW0 := hid (Has.new wr 37 #[.int .u8 x0, .int .i64 x1, .int .i64 x2])
      have HBW0 := hid (bw_alloc3 HBW.out #[.int .u8 x0, .int .i64 x1, .int .i64 x2] 37)
      cases hb : isB ⟨x0, x1, x2⟩ with
      | true =>
        have hok : tokOk ⟨x0, x1, x2⟩ = true := by simp [tokOk, hb]
        have hc : tokC ⟨x0, x1, x2⟩ = (litF x0 : Nat) := by unfold tokC; rw [hb]; exact litF_byte ⟨x0, hv⟩
        have hl9 := litF_le ⟨x0, by omega⟩
        simp only at hl9
        have HO2 := hid (HO.out.trans hok)
        have HN2 := hid (HN.out.trans (by rw [hc]))
        have HC := hid (show (fillArr litF 288 288)[x0]? = some (.int .i64 (litF x0 : Nat)) by rw [fillArr_get litF 288 288 x0 (by omega), if_pos (by omega)])
        obtain ⟨q1, q2⟩ := isB_iff.1 hb
        simp only at q1 q2
        subst q1 q2
        generalize litF x0 = cc at *
        rw [hok] at HB
        clear hb hok hc HN HO HBAD
        go_wp2_with fail
        refine (HB.out _).mono ?_
        rintro e w2 ⟨rfl, hw2⟩
        have d := hw2.has HW0.out
        have d0 : w2.cell? ⟨wr.heap.size, 0, none⟩ = some (.int .u8 x0) := d.cell 0
        have d2 : w2.cell? ⟨wr.heap.size, 2, none⟩ = some (.int .i64 0) := d.cell 2
        have HBW2 := hid (HBW0.out.trans hw2)
        have k0 : w2.cell? ⟨g1, x0, none⟩ = some (.int .i64 cc) := ((HBW2.out.has HG1.out).cell x0).trans HC.out
        have hx288 : x0 < 288 := by omega
        clear d hw2
        go_wp2
        go_roundw
        case rel => exact ⟨k + 1, by omega, by go_num, by rw [HN2.out], hid HO2.out, HBW2.out⟩
        case measure => simp [intOf]; omega
      | false =>
        cases hm : isM ⟨x0, x1, x2⟩ with
        | true =>
          have hok : tokOk ⟨x0, x1, x2⟩ = true := by simp [tokOk, hm]
          obtain ⟨b1, b2, b3, b4, -⟩ := isM_iff.1 hm
          simp only at b1 b2 b3 b4
          obtain ⟨n1, rfl⟩ := Int.eq_ofNat_of_zero_le (show 0 ≤ x1 by omega)
          obtain ⟨n2, rfl⟩ := Int.eq_ofNat_of_zero_le (show 0 ≤ x2 by omega)
          have hc : tokC ⟨x0, n1, n2⟩ = ((lenC n1 + 5 + distX n2 : Nat) : Int) := by unfold tokC; rw [hb]; rfl
          obtain ⟨e1, e2, e3⟩ := lenS_ok n1 (by omega) (by omega)
          obtain ⟨e4, e5⟩ := dst_ok n2 (by omega) (by omega)
          have g1' := lenC_le ⟨n1 - 3, by omega⟩
          simp only at g1'
          rw [show n1 - 3 + 3 = n1 by omega] at g1'
          have g2' := distX_le n2 (by omega) (by omega)
          rw [e1, e4] at hc
          rw [e1] at g1'
          rw [e4] at g2'
          have HO2 := hid (HO.out.trans hok)
          have HN2 := hid (HN.out.trans (by rw [hc]))
          have HC1 := hid (fun W => lsym_any n1 (by omega) W)
          have HC2 := hid (fun W => dsym_any n2 (by omega) W)
          have HC3 := hid (fun W => rlen_any (lenS n1) e2 e3 W)
          have HC4 := hid (fun W => rdst_any (dstS n2) (Nat.zero_le _) (by omega) W)
          have HK1 := hid (show (fillArr litF 288 288)[lenS n1]? = some (.int .i64 (litF (lenS n1) : Nat)) by rw [fillArr_get litF 288 288 (lenS n1) (by omega), if_pos (by omega)])
          have HK2 := hid (show (fillArr (fun _ => 5) 32 32)[dstS n2]? = some (.int .i64 5) by rw [fillArr_get (fun _ => 5) 32 32 (dstS n2) (by omega), if_pos (by omega)]; rfl)
          generalize lenS n1 = q1 at *
          generalize dstS n2 = q2 at *
          generalize lenX q1 = y1 at *
          generalize dstX q2 = y2 at *
          generalize litF q1 = y3 at *
          generalize lenF q1 = z1 at *
          generalize dstF q2 = z2 at *
          have td : ((n2 : Int) == 0) = false := by simp; omega
          rw [hok] at HB
          clear hb hm hok hc HN HO HBAD e1 e4
          go_wp2_with fail
          refine (HB.out _).mono ?_
          rintro e w2 ⟨rfl, hw2⟩
          have HD := hid (hw2.has HW0.out)
          have d0 : w2.cell? ⟨wr.heap.size, 0, none⟩ = some (.int .u8 x0) := HD.out.cell 0
          have d1 : w2.cell? ⟨wr.heap.size, 1, none⟩ = some (.int .i64 n1) := HD.out.cell 1
          have d2 : w2.cell? ⟨wr.heap.size, 2, none⟩ = some (.int .i64 n2) := HD.out.cell 2
          have HBW2 := hid (HBW0.out.trans hw2)
          have k0 : w2.cell? ⟨g1, q1, none⟩ = some (.int .i64 y3) := ((HBW2.out.has HG1.out).cell q1).trans HK1.out
          have k1 : w2.cell? ⟨g2, q2, none⟩ = some (.int .i64 5) := ((HBW2.out.has HG2.out).cell q2).trans HK2.out
          have hq1 : q1 < 288 := by omega
          have hq2 : q2 < 32 := by omega
          clear hw2
          go_wp2_with fail
          refine (HC1.out _).mono ?_
          rintro e w3 ⟨rfl, hw3⟩
          subst hw3
          go_wp2_with fail
          refine (HC2.out _).mono ?_
          rintro e w4 ⟨rfl, hw4⟩
          subst hw4
          go_wp2_with fail
          refine (HC3.out _).mono ?_
          rintro e w5 ⟨rfl, hw5⟩
          subst hw5
          go_wp2_with fail
          refine (HC4.out _).mono ?_
          rintro e w6 ⟨rfl, hw6⟩
          subst hw6
          have s1 : IntKind.i64.wrap (c + y3) = c + y3 := IntWalk.i64_in _ (by omega)
          have s2 : IntKind.i64.wrap (c + y3 + y1) = c + y3 + y1 := IntWalk.i64_in _ (by omega)
          have s3 : IntKind.i64.wrap (c + y3 + y1 + 5) = c + y3 + y1 + 5 := IntWalk.i64_in _ (by omega)
          have s4 : IntKind.i64.wrap (c + y3 + y1 + 5 + y2) = c + y3 + y1 + 5 + y2 := IntWalk.i64_in _ (by omega)
          go_wp2_with fail
          go_quiet (fail)
          clear s1 s2 s3 s4
          go_wp2
          go_roundw
          case rel => exact ⟨k + 1, by omega, by go_num, by rw [HN2.out]; congr 1; omega, hid HO2.out, HBW2.out.drewN _⟩
          case measure => simp [intOf]; omega
        | false =>
          have hok : tokOk ⟨x0, x1, x2⟩ = false := by simp [tokOk, hb, hm]
          have HB2 := hid (HBAD.out hok)
          have HR := hid (show costV l = 0 ∧ costE l = 1 by unfold costV costE; rw [HB2.out]; exact ⟨rfl, rfl⟩)
          rw [hok] at HB
          clear hb hm hok HN HO HBAD HB2
          go_wp2_with fail
          refine (HB.out _).mono ?_
          rintro e w2 ⟨rfl, hw2⟩
          have HBW2 := hid (HW1.out.trans (HBW0.out.trans hw2))
          clear hw2
          go_wp2
          go_returns
          exact ⟨by rw [HR.out.1, HR.out.2]; rfl, HBW2.out⟩
    · obtain rfl : k = len := by omega
      have ht : l.take k = l := List.take_of_length_le (by rw [hll.out]; exact Nat.le_refl _)
      have HR := hid (show costV l = costGo (l.take k) ∧ costE l = 0 by unfold costV costE; rw [ht] at HOK ⊢; rw [HOK.out]; exact ⟨rfl, rfl⟩)
      clear ht
      go_wp2
      go_returns
      exact ⟨by rw [HR.out.1, HR.out.2]; rfl, HW1.out.trans HBW.out⟩
end Go.Proofs.Ythegehgjpehfkaa
