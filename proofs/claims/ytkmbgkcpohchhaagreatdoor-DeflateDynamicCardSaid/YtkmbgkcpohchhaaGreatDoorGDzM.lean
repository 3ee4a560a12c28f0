import Derived.Test.YtkmbgkcpohchhaaGreatDoorGTokKit
import Derived.Test.YtkmbgkcpohchhaaGreatDoorGRowB
import Derived.Test.YtkmbgkcpohchhaaGreatDoorGHufA3
import Derived.Test.YtkmbgkcpohchhaaGreatDoorGHufG
import Derived.Test.YtkmbgkcpohchhaaGreatDoorGDefN
import Derived.Laws.MakeOwn
import Derived.Test.YtkmbgkcpohchhaaGreatDoorGDefWH
import Derived.Test.YtkmbgkcpohchhaaGreatDoorGHufU
namespace Go.Proofs.YtkmbgkcpohchhaaGreatDoor
open Go.RowKit
set_option linter.unusedVariables false
set_option maxRecDepth 100000 in
set_option maxHeartbeats 2000000 in
theorem may_any (x0 : Nat) (x1 x2 : Int) (w : World) :
    Calls Tryz.prog 11 #[.agg #[.int .u8 x0, .int .i64 x1, .int .i64 x2]] w fun e w' => e = .returned (.bool (tokOk ⟨x0, x1, x2⟩)) ∧ Bw w w' := by
  by_cases h0 : x2 = 0
  · subst h0
    have HF := hid (show tokOk ⟨x0, x1, 0⟩ = decide (x1 = 0) by unfold tokOk isB isM; simp)
    go_enter Tryz.func11, Tryz.ntmps11
    go_wp2
    go_returns
    refine ⟨ret_bool ?_, by unfold Bw; go_grown⟩
    rw [HF.out, Bool.eq_iff_iff]; simp
  · have t0 : (x2 == 0) = false := by simpa using h0
    have hm : tokOk ⟨x0, x1, x2⟩ = isM ⟨x0, x1, x2⟩ := by unfold tokOk isB; simp [h0]
    have HB := hid (show tokOk ⟨x0, x1, x2⟩ = decide (1 ≤ x2 ∧ x2 ≤ 32768 ∧ 3 ≤ x1 ∧ x1 ≤ 258 ∧ x0 = 0) from hm)
    clear hm h0
    by_cases h1 : 1 ≤ x2
    · by_cases h2 : x2 ≤ 32768
      · by_cases h3 : 3 ≤ x1
        · by_cases h4 : x1 ≤ 258
          · have HF := hid (show tokOk ⟨x0, x1, x2⟩ = decide (x0 = 0) by rw [HB.out]; simp [h1, h2, h3, h4])
            clear HB
            go_enter Tryz.func11, Tryz.ntmps11
            go_wp2
            go_returns
            refine ⟨ret_bool ?_, by unfold Bw; go_grown⟩
            rw [HF.out, Bool.eq_iff_iff]; simp
          · have HF := hid (show tokOk ⟨x0, x1, x2⟩ = false by rw [HB.out]; exact decide_eq_false (by omega))
            clear HB
            go_enter Tryz.func11, Tryz.ntmps11
            go_wp2
            go_returns
            exact ⟨ret_bool HF.out.symm, by unfold Bw; go_grown⟩
        · have HF := hid (show tokOk ⟨x0, x1, x2⟩ = false by rw [HB.out]; exact decide_eq_false (by omega))
          clear HB
          go_enter Tryz.func11, Tryz.ntmps11
          go_wp2
          go_returns
          exact ⟨ret_bool HF.out.symm, by unfold Bw; go_grown⟩
      · have HF := hid (show tokOk ⟨x0, x1, x2⟩ = false by rw [HB.out]; exact decide_eq_false (by omega))
        clear HB
        go_enter Tryz.func11, Tryz.ntmps11
        go_wp2
        go_returns
        exact ⟨ret_bool HF.out.symm, by unfold Bw; go_grown⟩
    · have HF := hid (show tokOk ⟨x0, x1, x2⟩ = false by rw [HB.out]; exact decide_eq_false (by omega))
      clear HB
      go_enter Tryz.func11, Tryz.ntmps11
      go_wp2
      go_returns
      exact ⟨ret_bool HF.out.symm, by unfold Bw; go_grown⟩
end Go.Proofs.YtkmbgkcpohchhaaGreatDoor
namespace Go.Proofs.YtkmbgkcpohchhaaGreatDoor
open Go.RowKit
set_option linter.unusedVariables false
set_option maxRecDepth 100000 in
set_option maxHeartbeats 4000000 in
theorem rcheck_big (a : Option Addr) (len cap : Nat) (hb : 320 < len) (w : World) :
    Calls Tryz.prog 71 #[.slice a len cap] w fun e w' => e = .returned (.int .i64 1) ∧ Bw w w' := by
  have h1 : (320 : Int) < len := by omega
  have HW := hid (Bw.refl w)
  go_enter Tryz.func71, Tryz.ntmps71
  go_wp2
  go_returns
  exact ⟨rfl, HW.out⟩
set_option maxRecDepth 100000 in
set_option maxHeartbeats 4000000 in
theorem rcheck_small (a : Option Addr) (len cap : Nat) (hb : len ≤ 320) (l : List Int) (hll : Hid (l.length = len)) (w : World) (hst : ZsAt w a l) :
    Calls Tryz.prog 71 #[.slice a len cap] w fun e w' => e = .returned (.int .i64 (checkE l)) ∧ Bw w w' := by
  have h1 : ¬ (320 : Int) < len := by omega
  have HW := hid (Bw.refl w)
  have HST := hid hst
  clear hst
  go_enter Tryz.func71, Tryz.ntmps71
  go_wp2_with fail
  go_loopw [3, 4, 5, 6] (fun sv nv lv i wr => ∃ k s n last : Nat, k ≤ len ∧ i = .int .i64 k ∧ sv = .int .i64 s ∧ nv = .int .i64 n ∧ lv = .int .i64 last ∧ ChkAt (l.take k) s n last ∧ n ≤ k ∧ (∀ x ∈ l.take k, lenB x = true) ∧ Bw w wr) (fun _ _ _ i _ => len - (intOf i).toNat)
  case atStart => exact ⟨0, 0, 0, 0, Nat.zero_le _, rfl, rfl, rfl, rfl, by rw [List.take_zero]; exact chk_nil, Nat.le_refl _, (fun x hx => by rw [List.take_zero] at hx; cases hx), HW.out⟩
  case round =>
    obtain ⟨k, s, n, last, hk, rfl, rfl, rfl, rfl, hc, hnk, hall, hbw⟩ := hrel
    have HB := hid hbw
    have HC := hid hc
    have HALL := hid hall
    have hsb : s ≤ 167772160 := by
      have h1 := hc.sum
      have h2 := kraftS_le (l.take k) (by have := List.length_take_le k l; omega) 16
      omega
    clear hall hc
    by_cases hlt : k < len
    · have hlti : (k : Int) < len := by omega
      have hkl : k < l.length := by rw [hll.out]; omega
      obtain ⟨b, off, rfl, hbl, q0⟩ := HST.out k hkl
      have x0 : wr.cell? ⟨b, off + k, none⟩ = some (.int .i64 l[k]) := (World.cell?_of_block (hbw.block b hbl)).trans q0
      have TS := hid (List.take_succ_eq_append_getElem hkl)
      have HM := hid (List.getElem_mem hkl)
      clear q0 hbw
      generalize l[k] = x at *
      by_cases hx : lenB x = true
      · obtain ⟨hx1, hx2⟩ := of_decide_eq_true hx
        have HA2 := hid (show ∀ y ∈ l.take (k + 1), lenB y = true from fun y hy => by
          rw [TS.out, List.mem_append] at hy
          rcases hy with hy | hy
          · exact HALL.out y hy
          · rw [List.mem_singleton] at hy; subst hy; exact hx)
        clear hx
        have hor : x = 0 ∨ x = 1 ∨ x = 2 ∨ x = 3 ∨ x = 4 ∨ x = 5 ∨ x = 6 ∨ x = 7 ∨ x = 8 ∨ x = 9 ∨ x = 10 ∨ x = 11 ∨ x = 12 ∨ x = 13 ∨ x = 14 ∨ x = 15 := by omega
        rcases hor with rfl | rfl | rfl | rfl | rfl | rfl | rfl | rfl | rfl | rfl | rfl | rfl | rfl | rfl | rfl | rfl
        · go_wp2
          go_roundw
          case rel => exact ⟨k + 1, s, n, last, by omega, by go_num, rfl, rfl, rfl, by rw [TS.out]; exact chk_zero HC.out, by omega, HA2.out, HB.out⟩
          case measure => simp [intOf]; omega
        · have HP := hid (chk_put HC.out 1 (by omega) (by omega))
          go_wp2
          refine ⟨⟨k + 1, s + 16384, n + 1, 1, by omega, by go_num, by go_num, by go_num, rfl, by rw [TS.out]; exact HP.out, by omega, HA2.out, HB.out⟩, by simp [intOf]; omega⟩
        · have HP := hid (chk_put HC.out 2 (by omega) (by omega))
          go_wp2
          refine ⟨⟨k + 1, s + 8192, n + 1, 2, by omega, by go_num, by go_num, by go_num, rfl, by rw [TS.out]; exact HP.out, by omega, HA2.out, HB.out⟩, by simp [intOf]; omega⟩
        · have HP := hid (chk_put HC.out 3 (by omega) (by omega))
          go_wp2
          refine ⟨⟨k + 1, s + 4096, n + 1, 3, by omega, by go_num, by go_num, by go_num, rfl, by rw [TS.out]; exact HP.out, by omega, HA2.out, HB.out⟩, by simp [intOf]; omega⟩
        · have HP := hid (chk_put HC.out 4 (by omega) (by omega))
          go_wp2
          refine ⟨⟨k + 1, s + 2048, n + 1, 4, by omega, by go_num, by go_num, by go_num, rfl, by rw [TS.out]; exact HP.out, by omega, HA2.out, HB.out⟩, by simp [intOf]; omega⟩
        · have HP := hid (chk_put HC.out 5 (by omega) (by omega))
          go_wp2
          refine ⟨⟨k + 1, s + 1024, n + 1, 5, by omega, by go_num, by go_num, by go_num, rfl, by rw [TS.out]; exact HP.out, by omega, HA2.out, HB.out⟩, by simp [intOf]; omega⟩
        · have HP := hid (chk_put HC.out 6 (by omega) (by omega))
          go_wp2
          refine ⟨⟨k + 1, s + 512, n + 1, 6, by omega, by go_num, by go_num, by go_num, rfl, by rw [TS.out]; exact HP.out, by omega, HA2.out, HB.out⟩, by simp [intOf]; omega⟩
        · have HP := hid (chk_put HC.out 7 (by omega) (by omega))
          go_wp2
          refine ⟨⟨k + 1, s + 256, n + 1, 7, by omega, by go_num, by go_num, by go_num, rfl, by rw [TS.out]; exact HP.out, by omega, HA2.out, HB.out⟩, by simp [intOf]; omega⟩
        · have HP := hid (chk_put HC.out 8 (by omega) (by omega))
          go_wp2
          refine ⟨⟨k + 1, s + 128, n + 1, 8, by omega, by go_num, by go_num, by go_num, rfl, by rw [TS.out]; exact HP.out, by omega, HA2.out, HB.out⟩, by simp [intOf]; omega⟩
        · have HP := hid (chk_put HC.out 9 (by omega) (by omega))
          go_wp2
          refine ⟨⟨k + 1, s + 64, n + 1, 9, by omega, by go_num, by go_num, by go_num, rfl, by rw [TS.out]; exact HP.out, by omega, HA2.out, HB.out⟩, by simp [intOf]; omega⟩
        · have HP := hid (chk_put HC.out 10 (by omega) (by omega))
          go_wp2
          refine ⟨⟨k + 1, s + 32, n + 1, 10, by omega, by go_num, by go_num, by go_num, rfl, by rw [TS.out]; exact HP.out, by omega, HA2.out, HB.out⟩, by simp [intOf]; omega⟩
        · have HP := hid (chk_put HC.out 11 (by omega) (by omega))
          go_wp2
          refine ⟨⟨k + 1, s + 16, n + 1, 11, by omega, by go_num, by go_num, by go_num, rfl, by rw [TS.out]; exact HP.out, by omega, HA2.out, HB.out⟩, by simp [intOf]; omega⟩
        · have HP := hid (chk_put HC.out 12 (by omega) (by omega))
          go_wp2
          refine ⟨⟨k + 1, s + 8, n + 1, 12, by omega, by go_num, by go_num, by go_num, rfl, by rw [TS.out]; exact HP.out, by omega, HA2.out, HB.out⟩, by simp [intOf]; omega⟩
        · have HP := hid (chk_put HC.out 13 (by omega) (by omega))
          go_wp2
          refine ⟨⟨k + 1, s + 4, n + 1, 13, by omega, by go_num, by go_num, by go_num, rfl, by rw [TS.out]; exact HP.out, by omega, HA2.out, HB.out⟩, by simp [intOf]; omega⟩
        · have HP := hid (chk_put HC.out 14 (by omega) (by omega))
          go_wp2
          refine ⟨⟨k + 1, s + 2, n + 1, 14, by omega, by go_num, by go_num, by go_num, rfl, by rw [TS.out]; exact HP.out, by omega, HA2.out, HB.out⟩, by simp [intOf]; omega⟩
        · have HP := hid (chk_put HC.out 15 (by omega) (by omega))
          go_wp2
          refine ⟨⟨k + 1, s + 1, n + 1, 15, by omega, by go_num, by go_num, by go_num, rfl, by rw [TS.out]; exact HP.out, by omega, HA2.out, HB.out⟩, by simp [intOf]; omega⟩
      · have hce : checkE l = 1 := by
          unfold checkE okLens
          rw [show l.all lenB = false from by
            rw [← Bool.not_eq_true, List.all_eq_true]
            exact fun a => hx (a x HM.out)]
          simp
        have HCE := hid hce
        have hx3 : x < 0 ∨ (¬ x < 0 ∧ 15 < x) := by
          unfold lenB at hx
          simp at hx
          omega
        clear hx hce
        rcases hx3 with hx3 | ⟨hx3, hx4⟩
        · go_wp2
          go_returns
          exact ⟨by rw [HCE.out]; rfl, HB.out⟩
        · go_wp2
          go_returns
          exact ⟨by rw [HCE.out]; rfl, HB.out⟩
    · obtain rfl : k = len := by omega
      rw [List.take_of_length_le (by rw [hll.out]; omega)] at HC HALL
      have hcc := chk_code HC.out
      have hok : okLens l = true := by
        unfold okLens
        rw [decide_eq_true (by rw [hll.out]; omega), Bool.true_and, List.all_eq_true]
        exact HALL.out
      have hce : checkE l = if codeB l then 0 else 3 := by unfold checkE; rw [hok, if_pos rfl]
      rw [hcc] at hce
      have HCE := hid hce
      clear hce hok hcc
      by_cases n0 : n = 0
      · subst n0
        have HE := hid (HCE.out.trans (by simp) : checkE l = 0)
        go_wp2
        go_returns
        exact ⟨by rw [HE.out]; rfl, HB.out⟩
      · have n0i : ¬ (n : Int) = 0 := by omega
        by_cases n1 : n = 1
        · subst n1
          by_cases l1 : last = 1
          · subst l1
            have HE := hid (HCE.out.trans (by simp) : checkE l = 0)
            go_wp2
            go_returns
            exact ⟨by rw [HE.out]; rfl, HB.out⟩
          · have l1i : ¬ (last : Int) = 1 := by omega
            by_cases s1 : s = 32768
            · subst s1
              have HE := hid (HCE.out.trans (by simp) : checkE l = 0)
              go_wp2
              go_returns
              exact ⟨by rw [HE.out]; rfl, HB.out⟩
            · have s1i : ¬ (s : Int) = 32768 := by omega
              have HE := hid (HCE.out.trans (by simp [l1, s1]) : checkE l = 3)
              go_wp2
              · rename_i h
                exfalso
                rcases h with h | h <;> (have := eq_of_beq h; omega)
              · go_returns
                exact ⟨by rw [HE.out]; rfl, HB.out⟩
        · have n1i : ¬ (n : Int) = 1 := by omega
          by_cases s1 : s = 32768
          · subst s1
            have HE := hid (HCE.out.trans (by simp) : checkE l = 0)
            go_wp2
            go_returns
            exact ⟨by rw [HE.out]; rfl, HB.out⟩
          · have s1i : ¬ (s : Int) = 32768 := by omega
            have HE := hid (HCE.out.trans (by simp [n0, n1, s1]) : checkE l = 3)
            go_wp2
            · rename_i h
              exfalso
              rcases h with h | h <;> (have := eq_of_beq h; omega)
            · go_returns
              exact ⟨by rw [HE.out]; rfl, HB.out⟩
theorem rcheck_any (a : Option Addr) (len cap : Nat) (l : List Int) (hll : Hid (l.length = len)) (w : World) (hst : ZsAt w a l) :
    Calls Tryz.prog 71 #[.slice a len cap] w fun e w' => e = .returned (.int .i64 (checkE l)) ∧ Bw w w' := by
  by_cases hb : 320 < len
  · have hok : okLens l = false := by unfold okLens; rw [decide_eq_false (by rw [hll.out]; omega)]; rfl
    have e2 : checkE l = 1 := by unfold checkE; rw [hok]; rfl
    rw [e2]
    exact rcheck_big a len cap hb w
  · exact rcheck_small a len cap (by omega) l hll w hst
end Go.Proofs.YtkmbgkcpohchhaaGreatDoor
namespace Go.Proofs.YtkmbgkcpohchhaaGreatDoor
open Go.RowKit
set_option linter.unusedVariables false
def oVal (l : List Int) (L i j : Nat) : Nat := if l.getD j 0 < L ∨ (l.getD j 0 = L ∧ j < i) then codeF l j else 0
def oArr (l : List Int) (len L i : Nat) : Array Value := ((List.range len).map fun j => Value.int .i64 (oVal l L i j : Nat)).toArray
theorem tal_other (p : List Int) (x : Int) (L : Nat) (h : ¬ x = (L : Int)) : tal (p ++ [x]) L = tal p L := by
  unfold tal
  by_cases h0 : L = 0
  · rw [if_pos h0, if_pos h0]
  · rw [if_neg h0, if_neg h0, List.count_append]
    simp [h]
theorem oArr_get (l : List Int) (len L i j : Nat) (h : j < len) : (oArr l len L i)[j]? = some (.int .i64 (oVal l L i j : Nat)) := by simp [oArr, h]
theorem oArr_congr (l : List Int) (len L i L' i' : Nat) (h : ∀ j, j < len → oVal l L i j = oVal l L' i' j) : oArr l len L i = oArr l len L' i' := by
  apply Array.ext_getElem?
  intro j
  by_cases hj : j < len
  · rw [oArr_get l len L i j hj, oArr_get l len L' i' j hj, h j hj]
  · rw [Array.getElem?_eq_none (by simp [oArr]; omega), Array.getElem?_eq_none (by simp [oArr]; omega)]
theorem oArr_next (l : List Int) (len L : Nat) : oArr l len L len = oArr l len (L + 1) 0 := oArr_congr _ _ _ _ _ _ fun j hj => by
  unfold oVal
  by_cases h : l.getD j 0 < L ∨ (l.getD j 0 = L ∧ j < len)
  · rw [if_pos h, if_pos (by omega)]
  · rw [if_neg h, if_neg (by omega)]
theorem oArr_skip (l : List Int) (len L i : Nat) (h : ¬ l.getD i 0 = L) : oArr l len L (i + 1) = oArr l len L i := oArr_congr _ _ _ _ _ _ fun j hj => by
  unfold oVal
  by_cases e : j = i
  · subst e
    by_cases h2 : l.getD j 0 < L
    · rw [if_pos (Or.inl h2), if_pos (Or.inl h2)]
    · rw [if_neg (by omega), if_neg (by omega)]
  · by_cases h2 : l.getD j 0 < L ∨ (l.getD j 0 = L ∧ j < i)
    · rw [if_pos h2, if_pos (by omega)]
    · rw [if_neg h2, if_neg (by omega)]
theorem oArr_one (l : List Int) (len : Nat) : cArr l len 0 = oArr l len 1 0 := by
  apply Array.ext_getElem?
  intro j
  by_cases hj : j < len
  · rw [cArr_get l len 0 j hj, oArr_get l len 1 0 j hj, if_neg (by omega)]
    have : oVal l 1 0 j = 0 := by
      unfold oVal
      by_cases h : l.getD j 0 < ((1 : Nat) : Int) ∨ (l.getD j 0 = ((1 : Nat) : Int) ∧ j < 0)
      · rw [if_pos h]
        unfold codeF
        by_cases h0 : l.getD j 0 = 0
        · rw [if_pos h0]
        · rw [if_neg h0, show (l.getD j 0).toNat = 0 by omega]; rfl
      · rw [if_neg h]
    rw [this]
  · rw [Array.getElem?_eq_none (by simp [cArr]; omega), Array.getElem?_eq_none (by simp [oArr]; omega)]
theorem oArr_all (l : List Int) (len : Nat) (hall : ∀ j, l.getD j 0 ≤ 15) : oArr l len 16 0 = cArr l len len := by
  apply Array.ext_getElem?
  intro j
  by_cases hj : j < len
  · rw [cArr_get l len len j hj, oArr_get l len 16 0 j hj, if_pos hj]
    have : oVal l 16 0 j = codeF l j := by
      unfold oVal
      have := hall j
      rw [if_pos (by omega)]
    rw [this]
  · rw [Array.getElem?_eq_none (by simp [oArr]; omega), Array.getElem?_eq_none (by simp [cArr]; omega)]
theorem oArr_put (l : List Int) (len L i : Nat) (hi : i < len) (hL : 0 < L) (h : l.getD i 0 = L) : (oArr l len L i).setIfInBounds i (.int .i64 (nxtC l i L : Nat)) = oArr l len L (i + 1) := by
  apply Array.ext_getElem?
  intro j
  have hsz : (oArr l len L i).size = len := by simp [oArr]
  rw [Array.getElem?_setIfInBounds, hsz]
  by_cases hj : j < len
  · rw [oArr_get l len L (i + 1) j hj]
    by_cases e : i = j
    · subst e
      rw [if_pos rfl, if_pos hi]
      have : oVal l L (i + 1) i = nxtC l i L := by
        unfold oVal codeF
        rw [if_pos (by omega), h, if_neg (by omega), Int.toNat_natCast]
      rw [this]
    · rw [if_neg e, oArr_get l len L i j hj]
      have : oVal l L (i + 1) j = oVal l L i j := by
        unfold oVal
        by_cases h2 : l.getD j 0 < L ∨ (l.getD j 0 = L ∧ j < i)
        · rw [if_pos h2, if_pos (by omega)]
        · rw [if_neg h2, if_neg (by omega)]
      rw [this]
  · have e : i ≠ j := by omega
    rw [if_neg e, Array.getElem?_eq_none (by rw [hsz]; omega), Array.getElem?_eq_none (by simp [oArr]; omega)]
set_option maxRecDepth 100000 in
set_option maxHeartbeats 4000000 in
theorem rcodes_bad (a : Option Addr) (len cap : Nat) (l : List Int) (hll : Hid (l.length = len)) (hE : checkE l ≠ 0) (w : World) (hst : ZsAt w a l) :
    Calls Tryz.prog 34 #[.slice a len cap] w fun e w' => e = .returned (.tuple #[.slice none 0 0, .int .i64 (checkE l)]) ∧ Bw w w' := by
  have HC := hid (rcheck_any a len cap l hll w hst)
  generalize checkE l = ce at *
  have hne : (ce != 0) = true := by simpa using hE
  clear hst
  go_enter Tryz.func34, Tryz.ntmps34
  go_wp2_with fail
  refine HC.out.mono ?_
  rintro e w2 ⟨rfl, hb⟩
  have HB := hid hb
  clear hb
  go_wp2
  go_returns
  exact ⟨rfl, HB.out⟩
set_option maxRecDepth 100000 in
set_option maxHeartbeats 8000000 in
theorem rcodes_ok (a : Option Addr) (len cap : Nat) (l : List Int) (hll : Hid (l.length = len)) (hE : checkE l = 0) (w : World) (hst : ZsAt w a l) :
    Calls Tryz.prog 34 #[.slice a len cap] w fun e w' => ∃ rb : Nat, e = .returned (.tuple #[.slice (some ⟨rb, 0, none⟩) len len, .int .i64 0]) ∧ w.heap.size ≤ rb ∧ Has w' rb 3 (cArr l len len) ∧ Bw w w' := by
  have HC := hid (rcheck_any a len cap l hll w hst)
  rw [hE] at HC
  have hok : okLens l = true := by
    unfold checkE at hE
    cases h : okLens l with
    | true => rfl
    | false => rw [h] at hE; cases hE
  unfold okLens at hok
  obtain ⟨h32, hall⟩ := Bool.and_eq_true_iff.1 hok
  have h320 : l.length ≤ 320 := of_decide_eq_true h32
  have hln : len ≤ 320 := by rw [← hll.out]; exact h320
  have h15 : ∀ j, l.getD j 0 ≤ 15 := fun j => by
    by_cases hj : j < l.length
    · have := of_decide_eq_true (List.all_eq_true.1 hall l[j] (List.getElem_mem hj))
      rw [show l.getD j 0 = l[j] by simp [List.getD, hj]]
      omega
    · rw [show l.getD j 0 = 0 by simp [List.getD, List.getElem?_eq_none (Nat.le_of_not_lt hj)]]; omega
  have HA15 := hid (oArr_all l len h15)
  have HST := hid hst
  have hmk := fun W => make_ints l len hln W
  clear hE hok h32 hall hst h15
  go_enter Tryz.func34, Tryz.ntmps34
  go_wp2_with fail
  refine HC.out.mono ?_
  rintro e w2 ⟨rfl, hb⟩
  have HB5 := hid (hb.alloc (.cells (cArr l len 0) 3))
  have HS2 := hid hb.size
  have HC5 := hid (Has.new w2 3 (cArr l len 0))
  clear hb
  go_wp2_with fail
  clear HC hmk
  generalize w2.alloc (.cells (cArr l len 0) 3) = W5 at *
  rw [oArr_one l len] at HC5
  generalize w2.heap.size = ob at *
  go_loopw [6, 7] (fun cv lv wr => ∃ L c : Nat, 1 ≤ L ∧ L ≤ 16 ∧ lv = .int .i64 L ∧ cv = .int .i64 c ∧ c * 2 = fstC l L ∧ Has wr ob 3 (oArr l len L 0) ∧ Bw w wr) (fun _ lv _ => 16 - (intOf lv).toNat)
  case atStart => exact ⟨1, 0, by omega, by omega, rfl, rfl, by simp [fstC, tal], HC5.out, HB5.out⟩
  case round =>
    clear HC5 HB5
    obtain ⟨L, c, hL1, hL, rfl, rfl, hcf, hh, hbw⟩ := hrel
    have HH := hid hh
    have HB := hid hbw
    have hfb := fstC_le l h320 L hL
    clear hh hbw
    by_cases hlt : L < 16
    · have hlti : (L : Int) ≤ 15 := by omega
      have HN0 := hid (show Value.int .i64 ((c : Int) * 2) = Value.int .i64 (nxtC l 0 L : Nat) by
        have : nxtC l 0 L = c * 2 := by unfold nxtC; rw [List.take_zero, tal_nil, hcf]; rfl
        rw [this]; exact congrArg _ (by omega))
      go_wp2_with fail
      go_loopw [6, 8] (fun cv iv wr => ∃ i : Nat, i ≤ len ∧ iv = .int .i64 i ∧ cv = .int .i64 (nxtC l i L : Nat) ∧ Has wr ob 3 (oArr l len L i) ∧ Bw w wr) (fun _ iv _ => len - (intOf iv).toNat)
      case atStart => exact ⟨0, Nat.zero_le _, rfl, HN0.out, HH.out, HB.out⟩
      case round =>
        clear HH HB HN0
        obtain ⟨i, hi, rfl, rfl, hh, hbw⟩ := hrel
        have HH := hid hh
        have HB := hid hbw
        by_cases hil : i < len
        · have hili : (i : Int) < len := by omega
          have hkl : i < l.length := by rw [hll.out]; omega
          have hgd : l.getD i 0 = l[i] := by simp [List.getD, hkl]
          obtain ⟨b, off, rfl, hbl, q0⟩ := HST.out i hkl
          have hts : l.take (i + 1) = l.take i ++ [l[i]] := List.take_succ_eq_append_getElem hkl
          have HTS := hid hts
          have HGD := hid hgd
          have x0 : ∀ wq, Bw w wq → wq.cell? ⟨b, off + i, none⟩ = some (.int .i64 l[i]) := fun wq h => (World.cell?_of_block (h.block b hbl)).trans q0
          have x1 := x0 _ HB.out
          clear x0 hts hgd hh hbw q0
          generalize l[i] = x at *
          have hb2 := tal_le (l.take i) L
          have hb3 : (l.take i).length ≤ i := List.length_take_le _ _
          have hbd : nxtC l i L < 4611686018427387904 := by unfold nxtC; omega
          by_cases hx : x = (L : Int)
          · subst hx
            have cf := HH.out.frozen i
            have cc : (∃ v, World.cell? _ ⟨ob, i, none⟩ = some v) := ⟨_, (HH.out.cell i).trans (oArr_get l len L i i hil)⟩
            have cc2 := (HH.out.cell i).trans (oArr_get l len L i i hil)
            have HP := hid (HH.out.put i (.int .i64 (nxtC l i L : Nat)))
            rw [oArr_put l len L i hil (by omega) HGD.out] at HP
            have HPB := hid (Below.setCell HB.out (p := ⟨ob, i, none⟩) HS2.out (.int .i64 (nxtC l i L : Nat)))
            have HNX := hid (show nxtC l (i + 1) L = nxtC l i L + 1 by
              unfold nxtC
              have := tal_snoc (l.take i) L L
              rw [if_pos ⟨rfl, by omega⟩] at this
              rw [HTS.out, this]; omega)
            clear hb2 hb3 cc
            go_wp2
            exact ⟨⟨i + 1, by omega, by go_num, by rw [HNX.out]; go_num, HP.out, HPB.out⟩, by simp [intOf]; omega⟩
          · have HSK := hid (oArr_skip l len L i (by rw [HGD.out]; exact hx))
            have hxb : (x == (L : Int)) = false := beq_eq_false_iff_ne.2 hx
            have HNX := hid (show nxtC l (i + 1) L = nxtC l i L by
              unfold nxtC
              rw [HTS.out, tal_other _ _ _ hx])
            go_wp2
            go_roundw
            case rel => exact ⟨i + 1, by omega, by go_num, by rw [HNX.out], by rw [HSK.out]; exact HH.out, HB.out⟩
            case measure => simp [intOf]; omega
        · obtain rfl : i = len := by omega
          rw [oArr_next] at HH
          have HE := hid (show nxtC l i L * 2 = fstC l (L + 1) by
            unfold nxtC
            rw [List.take_of_length_le (by rw [hll.out]; omega)]
            rfl)
          go_wp2
          exact ⟨⟨L + 1, nxtC l i L, by omega, by omega, by go_num, rfl, HE.out, HH.out, HB.out⟩, by simp [intOf]; omega⟩
    · obtain rfl : L = 16 := by omega
      rw [HA15.out] at HH
      go_wp2
      go_returns
      exact ⟨ob, rfl, HS2.out, HH.out, HB.out⟩
end Go.Proofs.YtkmbgkcpohchhaaGreatDoor
namespace Go.Proofs.YtkmbgkcpohchhaaGreatDoor
open Go.RowKit Go.Conc
set_option linter.unusedVariables false
set_option maxRecDepth 100000 in
set_option maxHeartbeats 2000000 in
theorem rfixed0_any (w : World) :
    Calls Tryz.prog 33 #[] w fun e w' => ∃ g1 g2 : Nat, e = .returned (.tuple #[.slice (some ⟨g1, 0, none⟩) 288 288, .slice (some ⟨g2, 0, none⟩) 32 32]) ∧ Has w' g1 3 (fillArr litF 288 288) ∧ Has w' g2 3 (fillArr (fun _ => 5) 32 32) ∧ Bw w w' := by
  have hmk : ∀ W : World, (Instr.makeSlice 44 (.int .i64 288) (.int .i64 288)).run Tryz.prog W = .ok (.slice (some ⟨W.heap.size, 0, none⟩) 288 288) (W.alloc (.cells (fillArr litF 288 0) 3)) := fun W => make_fill litF 288 (by omega) W
  have hmk2 : ∀ W : World, (Instr.makeSlice 44 (.int .i64 32) (.int .i64 32)).run Tryz.prog W = .ok (.slice (some ⟨W.heap.size, 0, none⟩) 32 32) (W.alloc (.cells (fillArr (fun _ => 5) 32 0) 3)) := fun W => make_fill (fun _ => 5) 32 (by omega) W
  have H1 := hid (Has.new w 3 (fillArr litF 288 0))
  have H2 := hid (fun (W : World) => Has.new W 3 (fillArr (fun _ => 5) 32 0))
  go_enter Tryz.func33, Tryz.ntmps33
  go_wp2
  go_loopw [3] (fun i wr => ∃ k : Nat, k ≤ 288 ∧ i = .int .i64 k ∧ Has wr w.heap.size 3 (fillArr litF 288 k) ∧ Bw w wr) (fun i _ => 288 - (intOf i).toNat)
  case atStart => exact ⟨0, Nat.zero_le _, rfl, H1.out, (Bw.refl w).alloc _⟩
  case round =>
    rename World => wr
    obtain ⟨k, hk, rfl, hh, hb⟩ := hrel
    have HH := hid hh
    have HB := hid hb
    by_cases hlt : k < 288
    · have c0 : wr.cell? ⟨w.heap.size, k, none⟩ = some (.int .i64 0) := by
        rw [hh.cell k, fillArr_get litF 288 k k hlt, if_neg (by omega)]
      have f0 := hh.frozen k
      clear hh hb hmk hmk2
      by_cases h144 : k < 144
      · have a1 : (k : Int) < 144 := by omega
        have HF := hid (show litF k = 8 from if_pos (.inl h144))
        have HP := hid (HH.out.put k (.int .i64 (litF k)))
        rw [fillArr_put litF 288 k hlt, HF.out] at HP
        clear HF
        go_wp2
        exact ⟨⟨k + 1, by omega, by go_num, HP.out, HB.out.setCell (p := ⟨w.heap.size, k, none⟩) (Nat.le_refl _) _⟩, by simp [intOf]; omega⟩
      · have a1 : ¬ (k : Int) < 144 := by omega
        by_cases h279 : 279 < k
        · have a2 : (279 : Int) < k := by omega
          have HF := hid (show litF k = 8 from if_pos (.inr h279))
          have HP := hid (HH.out.put k (.int .i64 (litF k)))
          rw [fillArr_put litF 288 k hlt, HF.out] at HP
          clear HF
          go_wp2
          exact ⟨⟨k + 1, by omega, by go_num, HP.out, HB.out.setCell (p := ⟨w.heap.size, k, none⟩) (Nat.le_refl _) _⟩, by simp [intOf]; omega⟩
        · have a2 : ¬ (279 : Int) < k := by omega
          by_cases h256 : k < 256
          · have a3 : (k : Int) < 256 := by omega
            have HF := hid (show litF k = 9 from (if_neg (by omega)).trans (if_pos h256))
            have HP := hid (HH.out.put k (.int .i64 (litF k)))
            rw [fillArr_put litF 288 k hlt, HF.out] at HP
            clear HF
            go_wp2
            exact ⟨⟨k + 1, by omega, by go_num, HP.out, HB.out.setCell (p := ⟨w.heap.size, k, none⟩) (Nat.le_refl _) _⟩, by simp [intOf]; omega⟩
          · have a3 : ¬ (k : Int) < 256 := by omega
            have HF := hid (show litF k = 7 from (if_neg (by omega)).trans (if_neg h256))
            have HP := hid (HH.out.put k (.int .i64 (litF k)))
            rw [fillArr_put litF 288 k hlt, HF.out] at HP
            clear HF
            go_wp2
            exact ⟨⟨k + 1, by omega, by go_num, HP.out, HB.out.setCell (p := ⟨w.heap.size, k, none⟩) (Nat.le_refl _) _⟩, by simp [intOf]; omega⟩
    · obtain rfl : k = 288 := by omega
      clear hh hb hmk
      have hd5 : Has (wr.alloc (.cells (fillArr (fun _ => 5) 32 0) 3)) w.heap.size 3 (fillArr litF 288 288) := HH.out.alloc _
      have HD5 := hid hd5
      have hne := HH.out.lt
      have HNE := hid (show wr.heap.size ≠ w.heap.size by omega)
      have HB1 := hid (HB.out.alloc (.cells (fillArr (fun _ => 5) 32 0) 3))
      have hwz := HB.out.size
      clear hd5 hne
      go_wp2
      go_loopw [5] (fun i wi => ∃ k : Nat, k ≤ 32 ∧ i = .int .i64 k ∧ Has wi wr.heap.size 3 (fillArr (fun _ => 5) 32 k) ∧ Has wi w.heap.size 3 (fillArr litF 288 288) ∧ Bw w wi) (fun i _ => 32 - (intOf i).toNat)
      case atStart => exact ⟨0, Nat.zero_le _, rfl, H2.out _, HD5.out, HB1.out⟩
      case round =>
        rename World => wi
        obtain ⟨k, hk, rfl, hh, hh2, hb⟩ := hrel
        have HH := hid hh
        have HH2 := hid hh2
        have HB := hid hb
        by_cases hlt : k < 32
        · have c0 : wi.cell? ⟨wr.heap.size, k, none⟩ = some (.int .i64 0) := by
            rw [hh.cell k, fillArr_get (fun _ => 5) 32 k k hlt, if_neg (by omega)]
          have f0 := hh.frozen k
          have HP := hid (HH.out.put k (.int .i64 5))
          have e5 := fillArr_put (fun _ => 5) 32 k hlt
          rw [show (fillArr (fun _ => 5) 32 k).setIfInBounds k (.int .i64 5) = fillArr (fun _ => 5) 32 (k + 1) from e5] at HP
          have HP2 := hid (HH2.out.far (p := ⟨wr.heap.size, k, none⟩) (fun e => HNE.out e.symm) (.int .i64 5))
          clear hh hh2 hb e5 hmk2
          go_wp2
          exact ⟨⟨k + 1, by omega, by go_num, HP.out, HP2.out, HB.out.setCell (p := ⟨wr.heap.size, k, none⟩) hwz _⟩, by simp [intOf]; omega⟩
        · obtain rfl : k = 32 := by omega
          clear hmk2
          go_wp2
          go_returns
          exact ⟨_, _, rfl, HH2.out, HH.out, HB.out⟩
end Go.Proofs.YtkmbgkcpohchhaaGreatDoor
namespace Go.Proofs.YtkmbgkcpohchhaaGreatDoor
open Go.RowKit
set_option linter.unusedVariables false
def Rx (w : World) (g : Nat) (s : ByteArray) (k : Nat) : Prop := Has w g 65 #[.string s, .int .i64 k]
theorem Rx.set {w : World} {g : Nat} {s : ByteArray} {k : Nat} (h : Rx w g s k) (m : Nat) : Rx (w.setCell ⟨g, 1, none⟩ (.int .i64 m)) g s m := by
  have := Has.put h 1 (.int .i64 m)
  unfold Rx
  simpa using this
theorem refbit (s : ByteArray) (p : Nat) (h : p / 8 < s.size) : ((s[p / 8].toNat : Int) / 2 ^ (p % 8)) % 2 = (bv s p 1 : Nat) := by
  have e : ((s[p / 8].toNat : Int) / 2 ^ (p % 8)) % 2 = ((s[p / 8].toNat / 2 ^ (p % 8) % 2 : Nat) : Int) := by simp
  rw [e, bv_bit s p h]
theorem refadd (s : ByteArray) (k j p : Nat) (hp : k + j = p) (h : p / 8 < s.size) (hj : j < 32) :
    ((bv s k j : Nat) + ((s[p / 8].toNat : Int) / 2 ^ (p % 8)).tmod 2 * 2 ^ j % 4294967296) % 4294967296 = (bv s k (j + 1) : Nat) := by
  have h0 : (0 : Int) ≤ (s[p / 8].toNat : Int) / 2 ^ (p % 8) := Int.ediv_nonneg (by omega) (Int.le_of_lt (Int.pow_pos (by decide)))
  rw [Int.tmod_eq_emod_of_nonneg h0, refbit s p h]
  have e : ((bv s p 1 : Nat) : Int) * 2 ^ j = ((2 ^ j * bv s p 1 : Nat) : Int) := by rw [Nat.mul_comm]; simp
  rw [e, bv_add s k j 1, hp]
  have h1 := bv_lt32 s k (j + 1) (by omega)
  rw [bv_add s k j 1, hp] at h1
  omega
set_option maxRecDepth 100000 in
set_option maxHeartbeats 1000000 in
theorem refbits_ok (g : Nat) (s : ByteArray) (hs : s.size ≤ 281474976710656) (k n : Nat) (hn : n ≤ 32) (hk : k + n ≤ 8 * s.size) (w : World) (h : Rx w g s k) :
    Calls Tryz.prog 99 #[.pointer (some ⟨g, 0, none⟩), .int .i64 n] w fun e w' => e = .returned (.tuple #[.int .u32 (bv s k n : Nat), .int .i64 0]) ∧ Rx w' g s (k + n) ∧ Keeps (· = g) w w' := by
  have hc0 : w.cell? ⟨g, 0, none⟩ = some (.string s) := h.cell 0
  have hc1 : w.cell? ⟨g, 1, none⟩ = some (.int .i64 k) := h.cell 1
  have HH := hid h
  clear h
  go_enter Tryz.func99, Tryz.ntmps99
  go_wp2_with fail
  go_quiet (fail)
  have d0 : (w.drewN nq).cell? ⟨g, 0, none⟩ = some (.string s) := by simpa using hc0
  have d1 : (w.drewN nq).cell? ⟨g, 1, none⟩ = some (.int .i64 k) := by simpa using hc1
  have hK : Keeps (· = g) w (w.drewN nq) := (Keeps.refl (· = g) w).drewN nq
  have H1 := hid (show Rx (w.drewN nq) g s k from HH.out.drewN nq)
  have f1 : (w.drewN nq).frozen? ⟨g, 1, none⟩ = false := H1.out.frozen 1
  clear HH hc0 hc1
  generalize w.drewN nq = w1 at *
  go_wp2_with fail
  go_loop [6, 7] (fun v i => ∃ j : Nat, j ≤ n ∧ i = .int .i64 j ∧ v = .int .u32 (bv s k j : Nat)) (fun _ i => n - (intOf i).toNat)
  case atStart => exact ⟨0, Nat.zero_le _, rfl, by rw [bv_zero]; rfl⟩
  case round =>
    obtain ⟨j, hj, rfl, rfl⟩ := hrel
    by_cases hlt : j < n
    · obtain ⟨p, hp⟩ : ∃ p, k + j = p := ⟨_, rfl⟩
      have hx : p / 8 < s.size := by omega
      have hv := bv_lt32 s k j (by omega)
      have hsx : s[p / 8].toNat < 256 := s[p / 8].toNat_lt
      have e1 : IntKind.i64.wrap ((k : Int) + j) = (p : Int) := by subst hp; rw [IntWalk.i64_in _ (by omega)]; omega
      have e2 : (k : Int) + j = p := by omega
      have HP := hid hp
      clear hp
      go_wp2
      go_round
      case rel => exact ⟨j + 1, by omega, by go_num, by rw [refadd s k j p HP.out hx (by omega)]⟩
      case measure => simp [intOf]; omega
    · obtain rfl : n = j := by omega
      go_wp2
      go_returns
      refine ⟨rfl, ?_, hK.setCell (p := ⟨g, 1, none⟩) (.inl rfl) _⟩
      have := H1.out.set (k + n)
      simpa using this
def RefBitsPost (g : Nat) (s : ByteArray) (k : Nat) (n : Int) (w : World) (e : Ending) (w' : World) : Prop :=
  e = .returned (.tuple #[.int .u32 (bitsV s k n : Nat), .int .i64 (bitsE s k n)]) ∧ Rx w' g s (bitsK s k n) ∧ Keeps (· = g) w w'
set_option maxHeartbeats 400000 in
theorem refbits_bad (g : Nat) (n : Int) (hn : n < 0 ∨ 32 < n) (w : World) :
    Calls Tryz.prog 99 #[.pointer (some ⟨g, 0, none⟩), .int .i64 n] w fun e w' => e = .returned (.tuple #[.int .u32 0, .int .i64 1]) ∧ w = w' := by
  by_cases h : n < 0
  · clear hn
    go_enter Tryz.func99, Tryz.ntmps99
    go_wp2
    go_returns
    exact ⟨rfl, rfl⟩
  · have h2 : 32 < n := by omega
    clear hn
    go_enter Tryz.func99, Tryz.ntmps99
    go_wp2
    go_returns
    exact ⟨rfl, rfl⟩
set_option maxHeartbeats 400000 in
theorem refbits_few (g : Nat) (s : ByteArray) (hs : s.size ≤ 281474976710656) (k : Nat) (hk8 : k ≤ 8 * s.size) (n : Int) (hn0 : 0 ≤ n) (hn1 : n ≤ 32) (hk : ¬ n ≤ 8 * (s.size : Int) - k) (w : World) (h : Rx w g s k) :
    Calls Tryz.prog 99 #[.pointer (some ⟨g, 0, none⟩), .int .i64 n] w fun e w' => e = .returned (.tuple #[.int .u32 0, .int .i64 2]) ∧ ∃ z, w' = w.drewN z := by
  have hc0 : w.cell? ⟨g, 0, none⟩ = some (.string s) := h.cell 0
  have hc1 : w.cell? ⟨g, 1, none⟩ = some (.int .i64 k) := h.cell 1
  clear h
  go_enter Tryz.func99, Tryz.ntmps99
  go_wp2_with fail
  go_quiet (fail)
  go_wp2
  go_returns
  exact ⟨rfl, nq, rfl⟩
theorem refbits_any (g : Nat) (s : ByteArray) (hs : s.size ≤ 281474976710656) (k : Nat) (hk : k ≤ 8 * s.size) (n : Int) (w : World) (h : Rx w g s k) :
    Calls Tryz.prog 99 #[.pointer (some ⟨g, 0, none⟩), .int .i64 n] w (RefBitsPost g s k n w) := by
  unfold RefBitsPost
  cases hn : cntB n with
  | false =>
    obtain ⟨e1, e2, e3⟩ := bits_range hn s k
    rw [e1, e2, e3]
    refine (refbits_bad g n (cntB_false hn) w).mono ?_
    rintro e w' ⟨rfl, rfl⟩
    exact ⟨rfl, h, Keeps.refl _ _⟩
  | true =>
    obtain ⟨h0, h1⟩ := cntB_true hn
    by_cases hl : n ≤ 8 * (s.size : Int) - k
    · obtain ⟨m, rfl⟩ := Int.eq_ofNat_of_zero_le h0
      obtain ⟨e1, e2, e3⟩ := bits_good m (by omega) s k (by omega)
      rw [e1, e2, e3]
      exact refbits_ok g s hs k m (by omega) (by omega) w h
    · obtain ⟨e1, e2, e3⟩ := bits_short hn s k hl
      rw [e1, e2, e3]
      refine (refbits_few g s hs k hk n h0 h1 hl w h).mono ?_
      rintro e w' ⟨rfl, z, rfl⟩
      exact ⟨rfl, h.drewN z, (Keeps.refl _ _).drewN z⟩
end Go.Proofs.YtkmbgkcpohchhaaGreatDoor
namespace Go.Proofs.YtkmbgkcpohchhaaGreatDoor
open Go.RowKit
set_option linter.unusedVariables false
set_option maxHeartbeats 1000000 in
theorem refralign_any (g : Nat) (s : ByteArray) (hs : s.size ≤ 281474976710656) (k : Nat) (hk : k ≤ 8 * s.size) (w : World) (h : Rx w g s k) :
    Calls Tryz.prog 120 #[.pointer (some ⟨g, 0, none⟩)] w fun e w' => e = .returned (.tuple #[]) ∧ Rx w' g s (upK k) ∧ Keeps (· = g) w w' := by
  have hu := upK_le k s.size hk
  have hu2 : k ≤ upK k := by unfold upK; omega
  have HU : Hid (upK k = (k + 7) / 8 * 8) := hid rfl
  have HH := hid h
  clear h
  generalize upK k = u at *
  go_enter Tryz.func120, Tryz.ntmps120
  go_wp2
  go_loopw [] (fun wr => ∃ j : Nat, k ≤ j ∧ j ≤ u ∧ Rx wr g s j ∧ Keeps (· = g) w wr) (fun wr => u - (intOf ((wr.cell? ⟨g, 1, none⟩).getD undef)).toNat)
  case atStart => exact ⟨k, by omega, by omega, HH.out, Keeps.refl _ _⟩
  case round =>
    rename_i wr
    obtain ⟨j, h1, h2, hR, hK⟩ := hrel
    have d1 : wr.cell? ⟨g, 1, none⟩ = some (.int .i64 j) := hR.cell 1
    have f1 : wr.frozen? ⟨g, 1, none⟩ = false := hR.frozen 1
    have H1 := hid hR
    clear hR
    by_cases hj : j % 8 = 0
    · have HJ : u = j := by have := HU.out; omega
      have e1 : ((j : Int) % 8 != 0) = false := by simp; omega
      have e2 : ((j : Int) % 8 == 0) = true := by simp; omega
      have HJ := hid HJ
      clear hj
      go_wp2
      go_returns
      exact ⟨rfl, by rw [HJ.out]; exact H1.out, hK⟩
    · have HJ : j < u := by have := HU.out; omega
      have e1 : ((j : Int) % 8 != 0) = true := by simp; omega
      have e2 : ((j : Int) % 8 == 0) = false := by simp; omega
      clear hj
      have hs1 : Rx (wr.setCell ⟨g, 1, none⟩ (.int .i64 (j + 1))) g s (j + 1) := by simpa using H1.out.set (j + 1)
      have hc1 : (wr.setCell ⟨g, 1, none⟩ (.int .i64 (j + 1))).cell? ⟨g, 1, none⟩ = some (.int .i64 (j + 1)) := by simpa using hs1.cell 1
      have HS := hid hs1
      have HC := hid hc1
      have HD := hid d1
      clear hs1 hc1
      go_wp2
      go_roundw
      case rel => exact ⟨j + 1, by omega, by omega, HS.out, hK.setCell (p := ⟨g, 1, none⟩) (.inl rfl) _⟩
      case measure => rw [HC.out, HD.out]; simp [intOf]; omega
end Go.Proofs.YtkmbgkcpohchhaaGreatDoor
namespace Go.Proofs.YtkmbgkcpohchhaaGreatDoor
open Go.RowKit
set_option linter.unusedVariables false
def RefBytesPost (g : Nat) (s : ByteArray) (k : Nat) (n : Int) (w : World) (e : Ending) (w' : World) : Prop :=
  e = .returned (.tuple #[.string (rbytesV s k n), .int .i64 (rbytesE s k n)]) ∧ Rx w' g s (rbytesK s k n) ∧ Keeps (· = g) w w'
set_option maxHeartbeats 400000 in
theorem refbytes_bad (g : Nat) (n : Int) (hn : n < 0) (w : World) :
    Calls Tryz.prog 100 #[.pointer (some ⟨g, 0, none⟩), .int .i64 n] w fun e w' => e = .returned (.tuple #[.string ⟨#[]⟩, .int .i64 1]) ∧ w = w' := by
  go_enter Tryz.func100, Tryz.ntmps100
  go_wp2
  go_returns
  exact ⟨rfl, rfl⟩
set_option maxRecDepth 100000 in
set_option maxHeartbeats 1000000 in
theorem refbytes_few (g : Nat) (s : ByteArray) (hs : s.size ≤ 281474976710656) (k : Nat) (hk : k ≤ 8 * s.size) (q : Nat) (hq : Hid (upK k / 8 = q)) (n : Int) (hn0 : 0 ≤ n) (hn : (s.size : Int) - q < n) (w : World) (h : Rx w g s k) :
    Calls Tryz.prog 100 #[.pointer (some ⟨g, 0, none⟩), .int .i64 n] w fun e w' => e = .returned (.tuple #[.string ⟨#[]⟩, .int .i64 2]) ∧ Rx w' g s (upK k) ∧ Keeps (· = g) w w' := by
  have HH := hid h
  clear h
  have hu := upK_le k s.size hk
  have hq2 : upK k = 8 * q := by have := upK_8 k; rw [hq.out] at this; exact this
  have hq1 : q ≤ s.size := by omega
  have hal := refralign_any g s hs k hk w HH.out
  rw [hq2] at hal ⊢
  have HAL := hid hal
  clear hal hq2 hu
  go_enter Tryz.func100, Tryz.ntmps100
  go_wp2_with fail
  refine HAL.out.mono ?_
  rintro e w1 ⟨rfl, h1, hK⟩
  have d0 : w1.cell? ⟨g, 0, none⟩ = some (.string s) := h1.cell 0
  have d1 : w1.cell? ⟨g, 1, none⟩ = some (.int .i64 (8 * q)) := by simpa using h1.cell 1
  have H1 := hid h1
  clear h1
  have e8 : (8 * (q : Int)) / 8 = q := by omega
  go_wp2
  go_returns
  exact ⟨rfl, H1.out, hK⟩
set_option maxRecDepth 100000 in
set_option maxHeartbeats 1000000 in
theorem refbytes_ok (g : Nat) (s : ByteArray) (hs : s.size ≤ 281474976710656) (k : Nat) (hk : k ≤ 8 * s.size) (q : Nat) (hq : Hid (upK k / 8 = q)) (n : Nat) (hn : q + n ≤ s.size) (w : World) (h : Rx w g s k) :
    Calls Tryz.prog 100 #[.pointer (some ⟨g, 0, none⟩), .int .i64 n] w fun e w' => e = .returned (.tuple #[.string (s.extract q (q + n)), .int .i64 0]) ∧ Rx w' g s (upK k + 8 * n) ∧ Keeps (· = g) w w' := by
  have HH := hid h
  clear h
  have hu := upK_le k s.size hk
  have hq2 : upK k = 8 * q := by have := upK_8 k; rw [hq.out] at this; exact this
  have hal := refralign_any g s hs k hk w HH.out
  rw [hq2] at hal ⊢
  have HAL := hid hal
  clear hal hq2 hu
  go_enter Tryz.func100, Tryz.ntmps100
  go_wp2_with fail
  refine HAL.out.mono ?_
  rintro e w1 ⟨rfl, h1, hK⟩
  have d0 : w1.cell? ⟨g, 0, none⟩ = some (.string s) := h1.cell 0
  have d1 : w1.cell? ⟨g, 1, none⟩ = some (.int .i64 (8 * q)) := by simpa using h1.cell 1
  have f1 : w1.frozen? ⟨g, 1, none⟩ = false := h1.frozen 1
  have hset : Rx (w1.setCell ⟨g, 1, none⟩ (.int .i64 (8 * q + 8 * n))) g s (8 * q + 8 * n) := by simpa using h1.set (8 * q + 8 * n)
  have hd : (w1.setCell ⟨g, 1, none⟩ (.int .i64 (8 * q + 8 * n))).cell? ⟨g, 0, none⟩ = some (.string s) := hset.cell 0
  have H1 := hid hset
  clear h1 hset
  have e8 : (8 * (q : Int)) / 8 = q := by omega
  go_wp2
  go_returns
  exact ⟨rfl, H1.out, hK.setCell (p := ⟨g, 1, none⟩) (.inl rfl) _⟩
theorem refbytes_any (g : Nat) (s : ByteArray) (hs : s.size ≤ 281474976710656) (k : Nat) (hk : k ≤ 8 * s.size) (n : Int) (w : World) (h : Rx w g s k) :
    Calls Tryz.prog 100 #[.pointer (some ⟨g, 0, none⟩), .int .i64 n] w (RefBytesPost g s k n w) := by
  unfold RefBytesPost
  by_cases hn : n < 0
  · obtain ⟨e1, e2, e3⟩ := rbytes_neg hn s k
    rw [e1, e2, e3]
    refine (refbytes_bad g n hn w).mono ?_
    rintro e w' ⟨rfl, rfl⟩
    exact ⟨rfl, h, Keeps.refl _ _⟩
  · obtain ⟨q, hq⟩ : ∃ q, upK k / 8 = q := ⟨_, rfl⟩
    by_cases hl : (s.size : Int) - q < n
    · obtain ⟨e1, e2, e3⟩ := rbytes_short (by omega) s k q hq hl
      rw [e1, e2, e3]
      exact refbytes_few g s hs k hk q hq n (by omega) hl w h
    · obtain ⟨m, rfl⟩ := Int.eq_ofNat_of_zero_le (show 0 ≤ n by omega)
      have hq3 : q + m ≤ s.size := by omega
      obtain ⟨e1, e2, e3⟩ := rbytes_good m s k q hq hq3
      rw [e1, e2, e3]
      exact refbytes_ok g s hs k hk q hq m hq3 w h
end Go.Proofs.YtkmbgkcpohchhaaGreatDoor
