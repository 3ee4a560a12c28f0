import Derived.Test.YtaggoiikkdlbdaaDoorHufI
import Derived.Test.YtaggoiikkdlbdaaDoorHufG
/- The document's Check (contract of the function). -/
namespace Go.Proofs.YtaggoiikkdlbdaaDoor
open Go.RowKit
set_option linter.unusedVariables false
set_option maxRecDepth 100000 in
set_option maxHeartbeats 4000000 in
theorem rcheck_big (a : Option Addr) (len cap : Nat) (hb : 320 < len) (w : World) :
    Calls Tryd.prog 41 #[.slice a len cap] w fun e w' => e = .returned (.int .i64 1) ∧ Bw w w' := by
  have h1 : (320 : Int) < len := by omega
  have HW := hid (Bw.refl w)
  go_enter Tryd.func41, Tryd.ntmps41
  go_wp2
  go_returns
  exact ⟨rfl, HW.out⟩
set_option maxRecDepth 100000 in
set_option maxHeartbeats 4000000 in
theorem rcheck_small (a : Option Addr) (len cap : Nat) (hb : len ≤ 320) (l : List Int) (hll : Hid (l.length = len)) (w : World) (hst : ZsAt w a l) :
    Calls Tryd.prog 41 #[.slice a len cap] w fun e w' => e = .returned (.int .i64 (checkE l)) ∧ Bw w w' := by
  have h1 : ¬ (320 : Int) < len := by omega
  have HW := hid (Bw.refl w)
  have HST := hid hst
  clear hst
  go_enter Tryd.func41, Tryd.ntmps41
  go_wp2_with fail
  go_loopw [3, 4, 5, 6] (fun sv nv lv i wr => ∃ k s n last : Nat, k ≤ len ∧ i = .int .i64 k ∧ sv = .int .i64 s ∧ nv = .int .i64 n ∧ lv = .int .i64 last ∧ ChkAt (l.take k) s n last ∧ n ≤ k ∧ (∀ x ∈ l.take k, lenB x = true) ∧ Bw w wr) (fun _ _ _ i _ => len - (intOf i).toNat)
  case atStart => exact ⟨0, 0, 0, 0, Nat.zero_le _, rfl, rfl, rfl, rfl, by rw [List.take_zero]; exact chk_nil, Nat.le_refl _, (fun x hx => by rw [List.take_zero] at hx; cases hx), HW.out⟩
  case round =>
    obtain ⟨k, s, n, last, hk, rfl, rfl, rfl, rfl, hc, hnk, hall, hbw⟩ := hrel
    have HB := hid hbw
    have HC := hid hc
    have HALL := hid hall
    have hsb : s ≤ 167772160 := by
      have h1 := hc.sum
      have h2 := kraftS_le (l.take k) (by have := List.length_take_le k l; omega) 16
      omega
    clear hall hc
    by_cases hlt : k < len
    · have hlti : (k : Int) < len := by omega
      have hkl : k < l.length := by rw [hll.out]; omega
      obtain ⟨b, off, rfl, hbl, q0⟩ := HST.out k hkl
      have x0 : wr.cell? ⟨b, off + k, none⟩ = some (.int .i64 l[k]) := (World.cell?_of_block (hbw.block b hbl)).trans q0
      have TS := hid (List.take_succ_eq_append_getElem hkl)
      have HM := hid (List.getElem_mem hkl)
      clear q0 hbw
      generalize l[k] = x at *
      by_cases hx : lenB x = true
      · obtain ⟨hx1, hx2⟩ := of_decide_eq_true hx
        have HA2 := hid (show ∀ y ∈ l.take (k + 1), lenB y = true from fun y hy => by
          rw [TS.out, List.mem_append] at hy
          rcases hy with hy | hy
          · exact HALL.out y hy
          · rw [List.mem_singleton] at hy; subst hy; exact hx)
        clear hx
        have hor : x = 0 ∨ x = 1 ∨ x = 2 ∨ x = 3 ∨ x = 4 ∨ x = 5 ∨ x = 6 ∨ x = 7 ∨ x = 8 ∨ x = 9 ∨ x = 10 ∨ x = 11 ∨ x = 12 ∨ x = 13 ∨ x = 14 ∨ x = 15 := by omega
        rcases hor with rfl | rfl | rfl | rfl | rfl | rfl | rfl | rfl | rfl | rfl | rfl | rfl | rfl | rfl | rfl | rfl
        · go_wp2
          go_roundw
          case rel => exact ⟨k + 1, s, n, last, by omega, by go_num, rfl, rfl, rfl, by rw [TS.out]; exact chk_zero HC.out, by omega, HA2.out, HB.out⟩
          case measure => simp [intOf]; omega
        · have HP := hid (chk_put HC.out 1 (by omega) (by omega))
          go_wp2
          refine ⟨⟨k + 1, s + 16384, n + 1, 1, by omega, by go_num, by go_num, by go_num, rfl, by rw [TS.out]; exact HP.out, by omega, HA2.out, HB.out⟩, by simp [intOf]; omega⟩
        · have HP := hid (chk_put HC.out 2 (by omega) (by omega))
          go_wp2
          refine ⟨⟨k + 1, s + 8192, n + 1, 2, by omega, by go_num, by go_num, by go_num, rfl, by rw [TS.out]; exact HP.out, by omega, HA2.out, HB.out⟩, by simp [intOf]; omega⟩
        · have HP := hid (chk_put HC.out 3 (by omega) (by omega))
          go_wp2
          refine ⟨⟨k + 1, s + 4096, n + 1, 3, by omega, by go_num, by go_num, by go_num, rfl, by rw [TS.out]; exact HP.out, by omega, HA2.out, HB.out⟩, by simp [intOf]; omega⟩
        · have HP := hid (chk_put HC.out 4 (by omega) (by omega))
          go_wp2
          refine ⟨⟨k + 1, s + 2048, n + 1, 4, by omega, by go_num, by go_num, by go_num, rfl, by rw [TS.out]; exact HP.out, by omega, HA2.out, HB.out⟩, by simp [intOf]; omega⟩
        · have HP := hid (chk_put HC.out 5 (by omega) (by omega))
          go_wp2
          refine ⟨⟨k + 1, s + 1024, n + 1, 5, by omega, by go_num, by go_num, by go_num, rfl, by rw [TS.out]; exact HP.out, by omega, HA2.out, HB.out⟩, by simp [intOf]; omega⟩
        · have HP := hid (chk_put HC.out 6 (by omega) (by omega))
          go_wp2
          refine ⟨⟨k + 1, s + 512, n + 1, 6, by omega, by go_num, by go_num, by go_num, rfl, by rw [TS.out]; exact HP.out, by omega, HA2.out, HB.out⟩, by simp [intOf]; omega⟩
        · have HP := hid (chk_put HC.out 7 (by omega) (by omega))
          go_wp2
          refine ⟨⟨k + 1, s + 256, n + 1, 7, by omega, by go_num, by go_num, by go_num, rfl, by rw [TS.out]; exact HP.out, by omega, HA2.out, HB.out⟩, by simp [intOf]; omega⟩
        · have HP := hid (chk_put HC.out 8 (by omega) (by omega))
          go_wp2
          refine ⟨⟨k + 1, s + 128, n + 1, 8, by omega, by go_num, by go_num, by go_num, rfl, by rw [TS.out]; exact HP.out, by omega, HA2.out, HB.out⟩, by simp [intOf]; omega⟩
        · have HP := hid (chk_put HC.out 9 (by omega) (by omega))
          go_wp2
          refine ⟨⟨k + 1, s + 64, n + 1, 9, by omega, by go_num, by go_num, by go_num, rfl, by rw [TS.out]; exact HP.out, by omega, HA2.out, HB.out⟩, by simp [intOf]; omega⟩
        · have HP := hid (chk_put HC.out 10 (by omega) (by omega))
          go_wp2
          refine ⟨⟨k + 1, s + 32, n + 1, 10, by omega, by go_num, by go_num, by go_num, rfl, by rw [TS.out]; exact HP.out, by omega, HA2.out, HB.out⟩, by simp [intOf]; omega⟩
        · have HP := hid (chk_put HC.out 11 (by omega) (by omega))
          go_wp2
          refine ⟨⟨k + 1, s + 16, n + 1, 11, by omega, by go_num, by go_num, by go_num, rfl, by rw [TS.out]; exact HP.out, by omega, HA2.out, HB.out⟩, by simp [intOf]; omega⟩
        · have HP := hid (chk_put HC.out 12 (by omega) (by omega))
          go_wp2
          refine ⟨⟨k + 1, s + 8, n + 1, 12, by omega, by go_num, by go_num, by go_num, rfl, by rw [TS.out]; exact HP.out, by omega, HA2.out, HB.out⟩, by simp [intOf]; omega⟩
        · have HP := hid (chk_put HC.out 13 (by omega) (by omega))
          go_wp2
          refine ⟨⟨k + 1, s + 4, n + 1, 13, by omega, by go_num, by go_num, by go_num, rfl, by rw [TS.out]; exact HP.out, by omega, HA2.out, HB.out⟩, by simp [intOf]; omega⟩
        · have HP := hid (chk_put HC.out 14 (by omega) (by omega))
          go_wp2
          refine ⟨⟨k + 1, s + 2, n + 1, 14, by omega, by go_num, by go_num, by go_num, rfl, by rw [TS.out]; exact HP.out, by omega, HA2.out, HB.out⟩, by simp [intOf]; omega⟩
        · have HP := hid (chk_put HC.out 15 (by omega) (by omega))
          go_wp2
          refine ⟨⟨k + 1, s + 1, n + 1, 15, by omega, by go_num, by go_num, by go_num, rfl, by rw [TS.out]; exact HP.out, by omega, HA2.out, HB.out⟩, by simp [intOf]; omega⟩
      · have hce : checkE l = 1 := by
          unfold checkE okLens
          rw [show l.all lenB = false from by
            rw [← Bool.not_eq_true, List.all_eq_true]
            exact fun a => hx (a x HM.out)]
          simp
        have HCE := hid hce
        have hx3 : x < 0 ∨ (¬ x < 0 ∧ 15 < x) := by
          unfold lenB at hx
          simp at hx
          omega
        clear hx hce
        rcases hx3 with hx3 | ⟨hx3, hx4⟩
        · go_wp2
          go_returns
          exact ⟨by rw [HCE.out]; rfl, HB.out⟩
        · go_wp2
          go_returns
          exact ⟨by rw [HCE.out]; rfl, HB.out⟩
    · obtain rfl : k = len := by omega
      rw [List.take_of_length_le (by rw [hll.out]; omega)] at HC HALL
      have hcc := chk_code HC.out
      have hok : okLens l = true := by
        unfold okLens
        rw [decide_eq_true (by rw [hll.out]; omega), Bool.true_and, List.all_eq_true]
        exact HALL.out
      have hce : checkE l = if codeB l then 0 else 3 := by unfold checkE; rw [hok, if_pos rfl]
      rw [hcc] at hce
      have HCE := hid hce
      clear hce hok hcc
      by_cases n0 : n = 0
      · subst n0
        have HE := hid (HCE.out.trans (by simp) : checkE l = 0)
        go_wp2
        go_returns
        exact ⟨by rw [HE.out]; rfl, HB.out⟩
      · have n0i : ¬ (n : Int) = 0 := by omega
        by_cases n1 : n = 1
        · subst n1
          by_cases l1 : last = 1
          · subst l1
            have HE := hid (HCE.out.trans (by simp) : checkE l = 0)
            go_wp2
            go_returns
            exact ⟨by rw [HE.out]; rfl, HB.out⟩
          · have l1i : ¬ (last : Int) = 1 := by omega
            by_cases s1 : s = 32768
            · subst s1
              have HE := hid (HCE.out.trans (by simp) : checkE l = 0)
              go_wp2
              go_returns
              exact ⟨by rw [HE.out]; rfl, HB.out⟩
            · have s1i : ¬ (s : Int) = 32768 := by omega
              have HE := hid (HCE.out.trans (by simp [l1, s1]) : checkE l = 3)
              go_wp2
              · rename_i h
                exfalso
                rcases h with h | h <;> (have := eq_of_beq h; omega)
              · go_returns
                exact ⟨by rw [HE.out]; rfl, HB.out⟩
        · have n1i : ¬ (n : Int) = 1 := by omega
          by_cases s1 : s = 32768
          · subst s1
            have HE := hid (HCE.out.trans (by simp) : checkE l = 0)
            go_wp2
            go_returns
            exact ⟨by rw [HE.out]; rfl, HB.out⟩
          · have s1i : ¬ (s : Int) = 32768 := by omega
            have HE := hid (HCE.out.trans (by simp [n0, n1, s1]) : checkE l = 3)
            go_wp2
            · rename_i h
              exfalso
              rcases h with h | h <;> (have := eq_of_beq h; omega)
            · go_returns
              exact ⟨by rw [HE.out]; rfl, HB.out⟩
theorem rcheck_any (a : Option Addr) (len cap : Nat) (l : List Int) (hll : Hid (l.length = len)) (w : World) (hst : ZsAt w a l) :
    Calls Tryd.prog 41 #[.slice a len cap] w fun e w' => e = .returned (.int .i64 (checkE l)) ∧ Bw w w' := by
  by_cases hb : 320 < len
  · have hok : okLens l = false := by unfold okLens; rw [decide_eq_false (by rw [hll.out]; omega)]; rfl
    have e2 : checkE l = 1 := by unfold checkE; rw [hok]; rfl
    rw [e2]
    exact rcheck_big a len cap hb w
  · exact rcheck_small a len cap (by omega) l hll w hst
end Go.Proofs.YtaggoiikkdlbdaaDoor
/- The document's Codes (contract of the function). -/
namespace Go.Proofs.YtaggoiikkdlbdaaDoor
open Go.RowKit
set_option linter.unusedVariables false
/-- What the document's Codes has stored at j: all of the lengths below L, and those of L ahead of i. -/
def oVal (l : List Int) (L i j : Nat) : Nat := if l.getD j 0 < L ∨ (l.getD j 0 = L ∧ j < i) then codeF l j else 0
def oArr (l : List Int) (len L i : Nat) : Array Value := ((List.range len).map fun j => Value.int .i64 (oVal l L i j : Nat)).toArray
theorem tal_other (p : List Int) (x : Int) (L : Nat) (h : ¬ x = (L : Int)) : tal (p ++ [x]) L = tal p L := by
  unfold tal
  by_cases h0 : L = 0
  · rw [if_pos h0, if_pos h0]
  · rw [if_neg h0, if_neg h0, List.count_append]
    simp [h]
theorem oArr_get (l : List Int) (len L i j : Nat) (h : j < len) : (oArr l len L i)[j]? = some (.int .i64 (oVal l L i j : Nat)) := by simp [oArr, h]
theorem oArr_congr (l : List Int) (len L i L' i' : Nat) (h : ∀ j, j < len → oVal l L i j = oVal l L' i' j) : oArr l len L i = oArr l len L' i' := by
  apply Array.ext_getElem?
  intro j
  by_cases hj : j < len
  · rw [oArr_get l len L i j hj, oArr_get l len L' i' j hj, h j hj]
  · rw [Array.getElem?_eq_none (by simp [oArr]; omega), Array.getElem?_eq_none (by simp [oArr]; omega)]
theorem oArr_next (l : List Int) (len L : Nat) : oArr l len L len = oArr l len (L + 1) 0 := oArr_congr _ _ _ _ _ _ fun j hj => by
  unfold oVal
  by_cases h : l.getD j 0 < L ∨ (l.getD j 0 = L ∧ j < len)
  · rw [if_pos h, if_pos (by omega)]
  · rw [if_neg h, if_neg (by omega)]
theorem oArr_skip (l : List Int) (len L i : Nat) (h : ¬ l.getD i 0 = L) : oArr l len L (i + 1) = oArr l len L i := oArr_congr _ _ _ _ _ _ fun j hj => by
  unfold oVal
  by_cases e : j = i
  · subst e
    by_cases h2 : l.getD j 0 < L
    · rw [if_pos (Or.inl h2), if_pos (Or.inl h2)]
    · rw [if_neg (by omega), if_neg (by omega)]
  · by_cases h2 : l.getD j 0 < L ∨ (l.getD j 0 = L ∧ j < i)
    · rw [if_pos h2, if_pos (by omega)]
    · rw [if_neg h2, if_neg (by omega)]
theorem oArr_one (l : List Int) (len : Nat) : cArr l len 0 = oArr l len 1 0 := by
  apply Array.ext_getElem?
  intro j
  by_cases hj : j < len
  · rw [cArr_get l len 0 j hj, oArr_get l len 1 0 j hj, if_neg (by omega)]
    have : oVal l 1 0 j = 0 := by
      unfold oVal
      by_cases h : l.getD j 0 < ((1 : Nat) : Int) ∨ (l.getD j 0 = ((1 : Nat) : Int) ∧ j < 0)
      · rw [if_pos h]
        unfold codeF
        by_cases h0 : l.getD j 0 = 0
        · rw [if_pos h0]
        · rw [if_neg h0, show (l.getD j 0).toNat = 0 by omega]; rfl
      · rw [if_neg h]
    rw [this]
  · rw [Array.getElem?_eq_none (by simp [cArr]; omega), Array.getElem?_eq_none (by simp [oArr]; omega)]
theorem oArr_all (l : List Int) (len : Nat) (hall : ∀ j, l.getD j 0 ≤ 15) : oArr l len 16 0 = cArr l len len := by
  apply Array.ext_getElem?
  intro j
  by_cases hj : j < len
  · rw [cArr_get l len len j hj, oArr_get l len 16 0 j hj, if_pos hj]
    have : oVal l 16 0 j = codeF l j := by
      unfold oVal
      have := hall j
      rw [if_pos (by omega)]
    rw [this]
  · rw [Array.getElem?_eq_none (by simp [oArr]; omega), Array.getElem?_eq_none (by simp [cArr]; omega)]
theorem oArr_put (l : List Int) (len L i : Nat) (hi : i < len) (hL : 0 < L) (h : l.getD i 0 = L) : (oArr l len L i).setIfInBounds i (.int .i64 (nxtC l i L : Nat)) = oArr l len L (i + 1) := by
  apply Array.ext_getElem?
  intro j
  have hsz : (oArr l len L i).size = len := by simp [oArr]
  rw [Array.getElem?_setIfInBounds, hsz]
  by_cases hj : j < len
  · rw [oArr_get l len L (i + 1) j hj]
    by_cases e : i = j
    · subst e
      rw [if_pos rfl, if_pos hi]
      have : oVal l L (i + 1) i = nxtC l i L := by
        unfold oVal codeF
        rw [if_pos (by omega), h, if_neg (by omega), Int.toNat_natCast]
      rw [this]
    · rw [if_neg e, oArr_get l len L i j hj]
      have : oVal l L (i + 1) j = oVal l L i j := by
        unfold oVal
        by_cases h2 : l.getD j 0 < L ∨ (l.getD j 0 = L ∧ j < i)
        · rw [if_pos h2, if_pos (by omega)]
        · rw [if_neg h2, if_neg (by omega)]
      rw [this]
  · have e : i ≠ j := by omega
    rw [if_neg e, Array.getElem?_eq_none (by rw [hsz]; omega), Array.getElem?_eq_none (by simp [oArr]; omega)]
set_option maxRecDepth 100000 in
set_option maxHeartbeats 4000000 in
theorem rcodes_bad (a : Option Addr) (len cap : Nat) (l : List Int) (hll : Hid (l.length = len)) (hE : checkE l ≠ 0) (w : World) (hst : ZsAt w a l) :
    Calls Tryd.prog 19 #[.slice a len cap] w fun e w' => e = .returned (.tuple #[.slice none 0 0, .int .i64 (checkE l)]) ∧ Bw w w' := by
  have HC := hid (rcheck_any a len cap l hll w hst)
  generalize checkE l = ce at *
  have hne : (ce != 0) = true := by simpa using hE
  clear hst
  go_enter Tryd.func19, Tryd.ntmps19
  go_wp2_with fail
  refine HC.out.mono ?_
  rintro e w2 ⟨rfl, hb⟩
  have HB := hid hb
  clear hb
  go_wp2
  go_returns
  exact ⟨rfl, HB.out⟩
set_option maxRecDepth 100000 in
set_option maxHeartbeats 8000000 in
theorem rcodes_ok (a : Option Addr) (len cap : Nat) (l : List Int) (hll : Hid (l.length = len)) (hE : checkE l = 0) (w : World) (hst : ZsAt w a l) :
    Calls Tryd.prog 19 #[.slice a len cap] w fun e w' => ∃ rb : Nat, e = .returned (.tuple #[.slice (some ⟨rb, 0, none⟩) len len, .int .i64 0]) ∧ w.heap.size ≤ rb ∧ Has w' rb 3 (cArr l len len) ∧ Bw w w' := by
  have HC := hid (rcheck_any a len cap l hll w hst)
  rw [hE] at HC
  have hok : okLens l = true := by
    unfold checkE at hE
    cases h : okLens l with
    | true => rfl
    | false => rw [h] at hE; cases hE
  unfold okLens at hok
  obtain ⟨h32, hall⟩ := Bool.and_eq_true_iff.1 hok
  have h320 : l.length ≤ 320 := of_decide_eq_true h32
  have hln : len ≤ 320 := by rw [← hll.out]; exact h320
  have h15 : ∀ j, l.getD j 0 ≤ 15 := fun j => by
    by_cases hj : j < l.length
    · have := of_decide_eq_true (List.all_eq_true.1 hall l[j] (List.getElem_mem hj))
      rw [show l.getD j 0 = l[j] by simp [List.getD, hj]]
      omega
    · rw [show l.getD j 0 = 0 by simp [List.getD, List.getElem?_eq_none (Nat.le_of_not_lt hj)]]; omega
  have HA15 := hid (oArr_all l len h15)
  have HST := hid hst
  have hmk := fun W => make_ints l len hln W
  clear hE hok h32 hall hst h15
  go_enter Tryd.func19, Tryd.ntmps19
  go_wp2_with fail
  refine HC.out.mono ?_
  rintro e w2 ⟨rfl, hb⟩
  have HB5 := hid (hb.alloc (.cells (cArr l len 0) 3))
  have HS2 := hid hb.size
  have HC5 := hid (Has.new w2 3 (cArr l len 0))
  clear hb
  go_wp2_with fail
  clear HC hmk
  generalize w2.alloc (.cells (cArr l len 0) 3) = W5 at *
  rw [oArr_one l len] at HC5
  generalize w2.heap.size = ob at *
  go_loopw [6, 7] (fun cv lv wr => ∃ L c : Nat, 1 ≤ L ∧ L ≤ 16 ∧ lv = .int .i64 L ∧ cv = .int .i64 c ∧ c * 2 = fstC l L ∧ Has wr ob 3 (oArr l len L 0) ∧ Bw w wr) (fun _ lv _ => 16 - (intOf lv).toNat)
  case atStart => exact ⟨1, 0, by omega, by omega, rfl, rfl, by simp [fstC, tal], HC5.out, HB5.out⟩
  case round =>
    clear HC5 HB5
    obtain ⟨L, c, hL1, hL, rfl, rfl, hcf, hh, hbw⟩ := hrel
    have HH := hid hh
    have HB := hid hbw
    have hfb := fstC_le l h320 L hL
    clear hh hbw
    by_cases hlt : L < 16
    · have hlti : (L : Int) ≤ 15 := by omega
      have HN0 := hid (show Value.int .i64 ((c : Int) * 2) = Value.int .i64 (nxtC l 0 L : Nat) by
        have : nxtC l 0 L = c * 2 := by unfold nxtC; rw [List.take_zero, tal_nil, hcf]; rfl
        rw [this]; exact congrArg _ (by omega))
      go_wp2_with fail
      go_loopw [6, 8] (fun cv iv wr => ∃ i : Nat, i ≤ len ∧ iv = .int .i64 i ∧ cv = .int .i64 (nxtC l i L : Nat) ∧ Has wr ob 3 (oArr l len L i) ∧ Bw w wr) (fun _ iv _ => len - (intOf iv).toNat)
      case atStart => exact ⟨0, Nat.zero_le _, rfl, HN0.out, HH.out, HB.out⟩
      case round =>
        clear HH HB HN0
        obtain ⟨i, hi, rfl, rfl, hh, hbw⟩ := hrel
        have HH := hid hh
        have HB := hid hbw
        by_cases hil : i < len
        · have hili : (i : Int) < len := by omega
          have hkl : i < l.length := by rw [hll.out]; omega
          have hgd : l.getD i 0 = l[i] := by simp [List.getD, hkl]
          obtain ⟨b, off, rfl, hbl, q0⟩ := HST.out i hkl
          have hts : l.take (i + 1) = l.take i ++ [l[i]] := List.take_succ_eq_append_getElem hkl
          have HTS := hid hts
          have HGD := hid hgd
          have x0 : ∀ wq, Bw w wq → wq.cell? ⟨b, off + i, none⟩ = some (.int .i64 l[i]) := fun wq h => (World.cell?_of_block (h.block b hbl)).trans q0
          have x1 := x0 _ HB.out
          clear x0 hts hgd hh hbw q0
          generalize l[i] = x at *
          have hb2 := tal_le (l.take i) L
          have hb3 : (l.take i).length ≤ i := List.length_take_le _ _
          have hbd : nxtC l i L < 4611686018427387904 := by unfold nxtC; omega
          by_cases hx : x = (L : Int)
          · subst hx
            have cf := HH.out.frozen i
            have cc : (∃ v, World.cell? _ ⟨ob, i, none⟩ = some v) := ⟨_, (HH.out.cell i).trans (oArr_get l len L i i hil)⟩
            have cc2 := (HH.out.cell i).trans (oArr_get l len L i i hil)
            have HP := hid (HH.out.put i (.int .i64 (nxtC l i L : Nat)))
            rw [oArr_put l len L i hil (by omega) HGD.out] at HP
            have HPB := hid (Below.setCell HB.out (p := ⟨ob, i, none⟩) HS2.out (.int .i64 (nxtC l i L : Nat)))
            have HNX := hid (show nxtC l (i + 1) L = nxtC l i L + 1 by
              unfold nxtC
              have := tal_snoc (l.take i) L L
              rw [if_pos ⟨rfl, by omega⟩] at this
              rw [HTS.out, this]; omega)
            clear hb2 hb3 cc
            go_wp2
            exact ⟨⟨i + 1, by omega, by go_num, by rw [HNX.out]; go_num, HP.out, HPB.out⟩, by simp [intOf]; omega⟩
          · have HSK := hid (oArr_skip l len L i (by rw [HGD.out]; exact hx))
            have hxb : (x == (L : Int)) = false := beq_eq_false_iff_ne.2 hx
            have HNX := hid (show nxtC l (i + 1) L = nxtC l i L by
              unfold nxtC
              rw [HTS.out, tal_other _ _ _ hx])
            go_wp2
            go_roundw
            case rel => exact ⟨i + 1, by omega, by go_num, by rw [HNX.out], by rw [HSK.out]; exact HH.out, HB.out⟩
            case measure => simp [intOf]; omega
        · obtain rfl : i = len := by omega
          rw [oArr_next] at HH
          have HE := hid (show nxtC l i L * 2 = fstC l (L + 1) by
            unfold nxtC
            rw [List.take_of_length_le (by rw [hll.out]; omega)]
            rfl)
          go_wp2
          exact ⟨⟨L + 1, nxtC l i L, by omega, by omega, by go_num, rfl, HE.out, HH.out, HB.out⟩, by simp [intOf]; omega⟩
    · obtain rfl : L = 16 := by omega
      rw [HA15.out] at HH
      go_wp2
      go_returns
      exact ⟨ob, rfl, HS2.out, HH.out, HB.out⟩
end Go.Proofs.YtaggoiikkdlbdaaDoor
