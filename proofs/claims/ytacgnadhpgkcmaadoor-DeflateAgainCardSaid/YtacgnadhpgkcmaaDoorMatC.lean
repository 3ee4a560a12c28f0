/- byteCost, lengthCost, extraOfDistance, Cost (contracts of the functions). -/
import Derived.Test.YtacgnadhpgkcmaaDoorMatA0
import Derived.Test.YtacgnadhpgkcmaaDoorShelf
import Derived.Deep.QuietTactic
import Derived.BigQuiet
import Derived.IntWalk
namespace Go.Proofs.YtacgnadhpgkcmaaDoor
open Go.RowKit
set_option linter.unusedVariables false
theorem byteCost_any (x : Nat) (w : World) :
    Calls Tryd.prog 35 #[.int .u8 x] w fun e w' => e = .returned (.int .i64 (litC x)) ∧ w' = w := by
  by_cases h : x < 144
  · have HF := hid (show litC x = 8 from if_pos h)
    have h' : (x : Int) < 144 := by omega
    go_enter Tryd.func35, Tryd.ntmps35
    go_wp2
    go_returns
    exact ⟨by rw [HF.out]; rfl, rfl⟩
  · have HF := hid (show litC x = 9 from if_neg h)
    have h' : ¬ (x : Int) < 144 := by omega
    go_enter Tryd.func35, Tryd.ntmps35
    go_wp2
    go_returns
    exact ⟨by rw [HF.out]; rfl, rfl⟩
theorem blen_any (x : Nat) (h1 : x ≤ 32768) (w : World) :
    Calls Tryd.prog 52 #[.int .u64 x] w fun e w' => e = .returned (.int .i64 (Lib.bitLen x)) ∧ w' = w := by
  have := bits_Len (x : Int) w (by omega) (by omega)
  rwa [Int.toNat_natCast] at this
theorem blen_le (x : Nat) (h : x ≤ 32768) : Lib.bitLen x ≤ 16 := by
  rcases Nat.lt_or_ge x 32768 with h1 | h1
  · by_cases h0 : x = 0
    · subst h0; decide
    · have h2 : 2 ^ Nat.log2 x ≤ x := Nat.log2_self_le h0
      have h3 : x < 2 ^ (Nat.log2 x + 1) := Nat.lt_log2_self
      have h4 : Nat.log2 x < 15 := (Nat.log2_lt h0).2 h1
      rw [bitLen_of x (Nat.log2 x) h2 h3 (by omega)]; omega
  · obtain rfl : x = 32768 := by omega
    decide
set_option maxHeartbeats 1000000 in
theorem extra_any (n : Nat) (h0 : 1 ≤ n) (h1 : n ≤ 32768) (w : World) :
    Calls Tryd.prog 38 #[.int .i64 n] w fun e w' => e = .returned (.int .i64 (distX n)) ∧ w' = w := by
  obtain ⟨m, rfl⟩ : ∃ m, n = m + 1 := ⟨n - 1, by omega⟩
  have HL := hid (fun W => blen_any m (by omega) W)
  have hb := blen_le m (by omega)
  have HX := hid (show distX (m + 1) = if Lib.bitLen m - 2 ≤ 0 then 0 else Lib.bitLen m - 2 from rfl)
  generalize Lib.bitLen m = b at *
  have e1 : ((m + 1 : Nat) : Int) - 1 = m := by omega
  have E1 := hid e1
  go_enter Tryd.func38, Tryd.ntmps38
  go_wp2_with fail
  refine (HL.out _).mono ?_
  rintro e w1 ⟨rfl, hw1⟩
  go_wp2
  go_returns
  refine ⟨?_, rfl⟩
  rw [HX.out]
  show Ending.returned (.int .i64 _) = _
  congr 2
  split <;> omega
set_option maxRecDepth 100000 in
set_option maxHeartbeats 1000000 in
theorem lenCost_any (n : Nat) (h0 : 3 ≤ n) (h1 : n ≤ 258) (w : World) :
    Calls Tryd.prog 37 #[.int .i64 n] w fun e w' => e = .returned (.int .i64 (lenC n)) ∧ w' = w := by
  obtain ⟨m, rfl⟩ : ∃ m, n = m + 3 := ⟨n - 3, by omega⟩
  have HL := hid (fun W => blen_any m (by omega) W)
  have hb := blen_le m (by omega)
  have HX := hid (show lenC (m + 3) = (if 115 ≤ m + 3 then 8 else 7) + if m + 3 < 258 then Lib.bitLen m - 3 else 0 from rfl)
  generalize Lib.bitLen m = b at *
  have E1 := hid (show ((m + 3 : Nat) : Int) - 3 = m by omega)
  by_cases h2 : 115 ≤ m + 3
  · by_cases h3 : m + 3 < 258
    · have HX2 := hid (show lenC (m + 3) = 8 + (b - 3) by rw [HX.out, if_pos h2, if_pos h3])
      have e1 : ((m + 3 : Nat) : Int) - 3 = m := by omega
      clear HX
      go_enter Tryd.func37, Tryd.ntmps37
      go_wp2_with fail
      refine (HL.out _).mono ?_
      rintro e w1 ⟨rfl, hw1⟩
      go_wp2
      go_returns
      refine ⟨?_, rfl⟩
      rw [HX2.out]
      show Ending.returned (.int .i64 _) = _
      congr 2
      omega
    · have HX2 := hid (show lenC (m + 3) = 8 + 0 by rw [HX.out, if_pos h2, if_neg h3])
      clear HX
      go_enter Tryd.func37, Tryd.ntmps37
      go_wp2
      go_returns
      exact ⟨by rw [HX2.out]; rfl, rfl⟩
  · have h3 : m + 3 < 258 := by omega
    have HX2 := hid (show lenC (m + 3) = 7 + (b - 3) by rw [HX.out, if_neg h2, if_pos h3])
    have e1 : ((m + 3 : Nat) : Int) - 3 = m := by omega
    clear HX
    go_enter Tryd.func37, Tryd.ntmps37
    go_wp2_with fail
    refine (HL.out _).mono ?_
    rintro e w1 ⟨rfl, hw1⟩
    go_wp2
    go_returns
    refine ⟨?_, rfl⟩
    rw [HX2.out]
    show Ending.returned (.int .i64 _) = _
    congr 2
    omega
theorem bw_alloc3 {w w' : World} (h : Bw w w') (cs : Array Value) (t : TypeId) : Bw w (w'.alloc (.cells cs t)) := h.alloc _
set_option maxRecDepth 100000 in
set_option maxHeartbeats 4000000 in
theorem cost_any (a : Option Addr) (len cap : Nat) (hlen : len ≤ 1000000) (l : List TokR) (hll : Hid (l.length = len)) (w : World) (hst : ToksAt w a l) :
    Calls Tryd.prog 18 #[.slice a len cap] w fun e w' => e = .returned (.tuple #[.int .i64 (costV l), .int .i64 (costE l)]) ∧ Bw w w' := by
  have HST := hid hst
  clear hst
  go_enter Tryd.func18, Tryd.ntmps18
  go_wp2
  go_loopw [4, 9] (fun c i wr => ∃ k : Nat, k ≤ len ∧ i = .int .i64 k ∧ c = .int .i64 (costGo (l.take k)) ∧ Hid (costOk (l.take k) = true) ∧ Bw w wr) (fun _ i _ => len - (intOf i).toNat)
  case atStart => exact ⟨0, Nat.zero_le _, rfl, rfl, hid rfl, Bw.refl w⟩
  case round =>
    rename_i wr
    obtain ⟨k, hk, rfl, rfl, HOK, hbw⟩ := hrel
    have hcl := costGo_le _ HOK.out
    have HBW := hid hbw
    by_cases hlt : k < len
    · have hkl : k < l.length := by rw [hll.out]; exact hlt
      have hk1 : (k : Int) < len := by omega
      obtain ⟨b, off, rfl, hb, c0, c1, c2, hv⟩ := HST.out.below hbw k hkl
      have HN := hid (costGo_next hkl)
      have HO := hid (costOk_next hkl HOK.out)
      have HBAD := hid (fun h => costOk_bad hkl h)
      have hll2 : (l.take k).length ≤ 1000000 := by rw [List.length_take]; omega
      have hcl2 : costGo (l.take k) ≤ 31000007 := by have := hcl.2; omega
      have hcl1 := hcl.1
      generalize costGo (l.take k) = c at *
      obtain ⟨x0, x1, x2, hx⟩ : ∃ x0 x1 x2, l[k] = ⟨x0, x1, x2⟩ := ⟨_, _, _, rfl⟩
      rw [hx] at c0 c1 c2 hv HN HO HBAD
      simp only at c0 c1 c2
      have hv : x0 < 256 := hv
      clear hx hkl hll2 hbw hcl
      have HB := hid (fun W => isByte_any x0 x1 x2 W)
      have HM := hid (fun W => isMatch_any x0 x1 x2 W)
      have HW0 := hid (Has.new wr 30 #[.int .u8 x0, .int .i64 x1, .int .i64 x2])
      have HBW0 := hid (bw_alloc3 HBW.out #[.int .u8 x0, .int .i64 x1, .int .i64 x2] 30)
      cases hb : isB ⟨x0, x1, x2⟩ with
      | true =>
        have hok : tokOk ⟨x0, x1, x2⟩ = true := by simp [tokOk, hb]
        have hc : tokC ⟨x0, x1, x2⟩ = litC x0 := by unfold tokC; rw [hb]; rfl
        have hl9 : 0 ≤ litC x0 ∧ litC x0 ≤ 9 := by unfold litC; split <;> omega
        have HO2 := hid (HO.out.trans hok)
        have HN2 := hid (HN.out.trans (by rw [hc]))
        have HC := hid (fun W => byteCost_any x0 W)
        obtain ⟨h90, h91⟩ := hl9
        generalize litC x0 = cc at *
        rw [hb] at HB
        clear hb hok hc HN HO HBAD HM
        go_wp2_with fail
        refine (HB.out _).mono ?_
        rintro e w2 ⟨rfl, hw2⟩
        have d := hw2.has HW0.out
        have d0 : w2.cell? ⟨wr.heap.size, 0, none⟩ = some (.int .u8 x0) := d.cell 0
        have HBW2 := hid (HBW0.out.trans hw2)
        clear d hw2
        go_wp2_with fail
        refine (HC.out _).mono ?_
        rintro e w3 ⟨rfl, hw3⟩
        go_wp2
        go_roundw
        case rel => exact ⟨k + 1, by omega, by go_num, by rw [HN2.out], hid HO2.out, HBW2.out⟩
        case measure => simp [intOf]; omega
      | false =>
        rw [hb] at HB
        cases hm : isM ⟨x0, x1, x2⟩ with
        | true =>
          obtain ⟨b1, b2, b3, b4, -⟩ := isM_iff.1 hm
          simp only at b1 b2 b3 b4
          obtain ⟨n1, rfl⟩ := Int.eq_ofNat_of_zero_le (show 0 ≤ x1 by omega)
          obtain ⟨n2, rfl⟩ := Int.eq_ofNat_of_zero_le (show 0 ≤ x2 by omega)
          have hok : tokOk ⟨x0, n1, n2⟩ = true := by simp [tokOk, hm]
          have hc : tokC ⟨x0, n1, n2⟩ = ((lenC n1 + 5 + distX n2 : Nat) : Int) := by unfold tokC; rw [hb]; rfl
          have g1 : lenC n1 ≤ 13 := by have := lenC_le ⟨n1 - 3, by omega⟩; simp only at this; rwa [show n1 - 3 + 3 = n1 by omega] at this
          have g2 := distX_le n2 (by omega) (by omega)
          have HC1 := hid (fun W => lenCost_any n1 (by omega) (by omega) W)
          have HC2 := hid (fun W => extra_any n2 (by omega) (by omega) W)
          have HO2 := hid (HO.out.trans hok)
          have HN2 := hid (HN.out.trans (by rw [hc]))
          generalize lenC n1 = q1 at *
          generalize distX n2 = q2 at *
          rw [hm] at HM
          clear hb hm hok hc HN HO HBAD
          go_wp2_with fail
          refine (HB.out _).mono ?_
          rintro e w2 ⟨rfl, hw2⟩
          have HD := hid (hw2.has HW0.out)
          have d0 : w2.cell? ⟨wr.heap.size, 0, none⟩ = some (.int .u8 x0) := HD.out.cell 0
          have d1 : w2.cell? ⟨wr.heap.size, 1, none⟩ = some (.int .i64 n1) := HD.out.cell 1
          have d2 : w2.cell? ⟨wr.heap.size, 2, none⟩ = some (.int .i64 n2) := HD.out.cell 2
          have HBW2 := hid (HBW0.out.trans hw2)
          clear hw2
          go_wp2_with fail
          refine (HM.out _).mono ?_
          rintro e w3 ⟨rfl, hw3⟩
          have f1 : w3.cell? ⟨wr.heap.size, 1, none⟩ = some (.int .i64 n1) := (hw3.has HD.out).cell 1
          have f2 : w3.cell? ⟨wr.heap.size, 2, none⟩ = some (.int .i64 n2) := (hw3.has HD.out).cell 2
          have HBW3 := hid (HBW2.out.trans hw3)
          clear hw3 d0 d1 d2
          have s1 : IntKind.i64.wrap ((q1 : Int) + 5) = q1 + 5 := IntWalk.i64_in _ (by omega)
          have s2 : IntKind.i64.wrap ((q1 : Int) + 5 + q2) = q1 + 5 + q2 := IntWalk.i64_in _ (by omega)
          have s3 : IntKind.i64.wrap (c + ((q1 : Int) + 5 + q2)) = c + (q1 + 5 + q2) := IntWalk.i64_in _ (by omega)
          go_wp2_with fail
          go_quiet ((first | (go_at_call 37; exact Calls.quiet_of_same (HC1.out _)) | (go_at_call 38; exact Calls.quiet_of_same (HC2.out _))))
          clear s1 s2 s3
          go_wp2
          go_roundw
          case rel => exact ⟨k + 1, by omega, by go_num, by rw [HN2.out]; simp, hid HO2.out, HBW3.out.drewN _⟩
          case measure => simp [intOf]; omega
        | false =>
          have HB2 := hid (HBAD.out (by simp [tokOk, hb, hm]))
          have HR := hid (show costV l = 0 ∧ costE l = 1 by unfold costV costE; rw [HB2.out]; exact ⟨rfl, rfl⟩)
          rw [hm] at HM
          clear hb hm HN HO HBAD HB2
          go_wp2_with fail
          refine (HB.out _).mono ?_
          rintro e w2 ⟨rfl, hw2⟩
          have HD := hid (hw2.has HW0.out)
          have d0 : w2.cell? ⟨wr.heap.size, 0, none⟩ = some (.int .u8 x0) := HD.out.cell 0
          have d1 : w2.cell? ⟨wr.heap.size, 1, none⟩ = some (.int .i64 x1) := HD.out.cell 1
          have d2 : w2.cell? ⟨wr.heap.size, 2, none⟩ = some (.int .i64 x2) := HD.out.cell 2
          have HBW2 := hid (HBW0.out.trans hw2)
          clear hw2
          go_wp2_with fail
          refine (HM.out _).mono ?_
          rintro e w3 ⟨rfl, hw3⟩
          have HBW3 := hid (HBW2.out.trans hw3)
          clear hw3 d0 d1 d2
          go_wp2
          go_returns
          exact ⟨by rw [HR.out.1, HR.out.2]; rfl, HBW3.out⟩
    · obtain rfl : k = len := by omega
      have ht : l.take k = l := List.take_of_length_le (by rw [hll.out]; exact Nat.le_refl _)
      have HR := hid (show costV l = costGo (l.take k) ∧ costE l = 0 by unfold costV costE; rw [ht] at HOK ⊢; rw [HOK.out]; exact ⟨rfl, rfl⟩)
      clear ht
      go_wp2
      go_returns
      exact ⟨by rw [HR.out.1, HR.out.2]; rfl, HBW.out⟩
end Go.Proofs.YtacgnadhpgkcmaaDoor
