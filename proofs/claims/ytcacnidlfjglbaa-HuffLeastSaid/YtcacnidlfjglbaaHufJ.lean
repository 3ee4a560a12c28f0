/- The document's Check (contract of the function). -/
import Derived.Test.YtcacnidlfjglbaaHufI
namespace Go.Proofs.Ytcacnidlfjglbaa
open Go.RowKit
set_option linter.unusedVariables false
set_option maxRecDepth 100000 in
set_option maxHeartbeats 4000000 in
theorem rcheck_big (a : Option Addr) (len cap : Nat) (hb : 320 < len) (w : World) :
    Calls Try.prog 9 #[.slice a len cap] w fun e w' => e = .returned (.int .i64 1) ∧ Bw w w' := by
  have h1 : (320 : Int) < len := by omega
  have HW := hid (Bw.refl w)
  go_enter Try.func9, Try.ntmps9
  go_wp2
  go_returns
  exact ⟨rfl, HW.out⟩
set_option maxRecDepth 100000 in
set_option maxHeartbeats 4000000 in
theorem rcheck_small (a : Option Addr) (len cap : Nat) (hb : len ≤ 320) (l : List Int) (hll : Hid (l.length = len)) (w : World) (hst : ZsAt w a l) :
    Calls Try.prog 9 #[.slice a len cap] w fun e w' => e = .returned (.int .i64 (checkE l)) ∧ Bw w w' := by
  have h1 : ¬ (320 : Int) < len := by omega
  have HW := hid (Bw.refl w)
  have HST := hid hst
  clear hst
  go_enter Try.func9, Try.ntmps9
  go_wp2_with fail
  go_loopw [3, 4, 5, 6] (fun sv nv lv i wr => ∃ k s n last : Nat, k ≤ len ∧ i = .int .i64 k ∧ sv = .int .i64 s ∧ nv = .int .i64 n ∧ lv = .int .i64 last ∧ ChkAt (l.take k) s n last ∧ n ≤ k ∧ (∀ x ∈ l.take k, lenB x = true) ∧ Bw w wr) (fun _ _ _ i _ => len - (intOf i).toNat)
  case atStart => exact ⟨0, 0, 0, 0, Nat.zero_le _, rfl, rfl, rfl, rfl, by rw [List.take_zero]; exact chk_nil, Nat.le_refl _, (fun x hx => by rw [List.take_zero] at hx; cases hx), HW.out⟩
  case round =>
    obtain ⟨k, s, n, last, hk, rfl, rfl, rfl, rfl, hc, hnk, hall, hbw⟩ := hrel
    have HB := hid hbw
    have HC := hid hc
    have HALL := hid hall
    have hsb : s ≤ 167772160 := by
      have h1 := hc.sum
      have h2 := kraftS_le (l.take k) (by have := List.length_take_le k l; omega) 16
      omega
    clear hall hc
    by_cases hlt : k < len
    · have hlti : (k : Int) < len := by omega
      have hkl : k < l.length := by rw [hll.out]; omega
      obtain ⟨b, off, rfl, hbl, q0⟩ := HST.out k hkl
      have x0 : wr.cell? ⟨b, off + k, none⟩ = some (.int .i64 l[k]) := (World.cell?_of_block (hbw.block b hbl)).trans q0
      have TS := hid (List.take_succ_eq_append_getElem hkl)
      have HM := hid (List.getElem_mem hkl)
      clear q0 hbw
      generalize l[k] = x at *
      by_cases hx : lenB x = true
      · obtain ⟨hx1, hx2⟩ := of_decide_eq_true hx
        have HA2 := hid (show ∀ y ∈ l.take (k + 1), lenB y = true from fun y hy => by
          rw [TS.out, List.mem_append] at hy
          rcases hy with hy | hy
          · exact HALL.out y hy
          · rw [List.mem_singleton] at hy; subst hy; exact hx)
        clear hx
        have hor : x = 0 ∨ x = 1 ∨ x = 2 ∨ x = 3 ∨ x = 4 ∨ x = 5 ∨ x = 6 ∨ x = 7 ∨ x = 8 ∨ x = 9 ∨ x = 10 ∨ x = 11 ∨ x = 12 ∨ x = 13 ∨ x = 14 ∨ x = 15 := by omega
        rcases hor with rfl | rfl | rfl | rfl | rfl | rfl | rfl | rfl | rfl | rfl | rfl | rfl | rfl | rfl | rfl | rfl
        · go_wp2
          go_roundw
          case rel => exact ⟨k + 1, s, n, last, by omega, by go_num, rfl, rfl, rfl, by rw [TS.out]; exact chk_zero HC.out, by omega, HA2.out, HB.out⟩
          case measure => simp [intOf]; omega
        · have HP := hid (chk_put HC.out 1 (by omega) (by omega))
          go_wp2
          refine ⟨⟨k + 1, s + 16384, n + 1, 1, by omega, by go_num, by go_num, by go_num, rfl, by rw [TS.out]; exact HP.out, by omega, HA2.out, HB.out⟩, by simp [intOf]; omega⟩
        · have HP := hid (chk_put HC.out 2 (by omega) (by omega))
          go_wp2
          refine ⟨⟨k + 1, s + 8192, n + 1, 2, by omega, by go_num, by go_num, by go_num, rfl, by rw [TS.out]; exact HP.out, by omega, HA2.out, HB.out⟩, by simp [intOf]; omega⟩
        · have HP := hid (chk_put HC.out 3 (by omega) (by omega))
          go_wp2
          refine ⟨⟨k + 1, s + 4096, n + 1, 3, by omega, by go_num, by go_num, by go_num, rfl, by rw [TS.out]; exact HP.out, by omega, HA2.out, HB.out⟩, by simp [intOf]; omega⟩
        · have HP := hid (chk_put HC.out 4 (by omega) (by omega))
          go_wp2
          refine ⟨⟨k + 1, s + 2048, n + 1, 4, by omega, by go_num, by go_num, by go_num, rfl, by rw [TS.out]; exact HP.out, by omega, HA2.out, HB.out⟩, by simp [intOf]; omega⟩
        · have HP := hid (chk_put HC.out 5 (by omega) (by omega))
          go_wp2
          refine ⟨⟨k + 1, s + 1024, n + 1, 5, by omega, by go_num, by go_num, by go_num, rfl, by rw [TS.out]; exact HP.out, by omega, HA2.out, HB.out⟩, by simp [intOf]; omega⟩
        · have HP := hid (chk_put HC.out 6 (by omega) (by omega))
          go_wp2
          refine ⟨⟨k + 1, s + 512, n + 1, 6, by omega, by go_num, by go_num, by go_num, rfl, by rw [TS.out]; exact HP.out, by omega, HA2.out, HB.out⟩, by simp [intOf]; omega⟩
        · have HP := hid (chk_put HC.out 7 (by omega) (by omega))
          go_wp2
          refine ⟨⟨k + 1, s + 256, n + 1, 7, by omega, by go_num, by go_num, by go_num, rfl, by rw [TS.out]; exact HP.out, by omega, HA2.out, HB.out⟩, by simp [intOf]; omega⟩
        · have HP := hid (chk_put HC.out 8 (by omega) (by omega))
          go_wp2
          refine ⟨⟨k + 1, s + 128, n + 1, 8, by omega, by go_num, by go_num, by go_num, rfl, by rw [TS.out]; exact HP.out, by omega, HA2.out, HB.out⟩, by simp [intOf]; omega⟩
        · have HP := hid (chk_put HC.out 9 (by omega) (by omega))
          go_wp2
          refine ⟨⟨k + 1, s + 64, n + 1, 9, by omega, by go_num, by go_num, by go_num, rfl, by rw [TS.out]; exact HP.out, by omega, HA2.out, HB.out⟩, by simp [intOf]; omega⟩
        · have HP := hid (chk_put HC.out 10 (by omega) (by omega))
          go_wp2
          refine ⟨⟨k + 1, s + 32, n + 1, 10, by omega, by go_num, by go_num, by go_num, rfl, by rw [TS.out]; exact HP.out, by omega, HA2.out, HB.out⟩, by simp [intOf]; omega⟩
        · have HP := hid (chk_put HC.out 11 (by omega) (by omega))
          go_wp2
          refine ⟨⟨k + 1, s + 16, n + 1, 11, by omega, by go_num, by go_num, by go_num, rfl, by rw [TS.out]; exact HP.out, by omega, HA2.out, HB.out⟩, by simp [intOf]; omega⟩
        · have HP := hid (chk_put HC.out 12 (by omega) (by omega))
          go_wp2
          refine ⟨⟨k + 1, s + 8, n + 1, 12, by omega, by go_num, by go_num, by go_num, rfl, by rw [TS.out]; exact HP.out, by omega, HA2.out, HB.out⟩, by simp [intOf]; omega⟩
        · have HP := hid (chk_put HC.out 13 (by omega) (by omega))
          go_wp2
          refine ⟨⟨k + 1, s + 4, n + 1, 13, by omega, by go_num, by go_num, by go_num, rfl, by rw [TS.out]; exact HP.out, by omega, HA2.out, HB.out⟩, by simp [intOf]; omega⟩
        · have HP := hid (chk_put HC.out 14 (by omega) (by omega))
          go_wp2
          refine ⟨⟨k + 1, s + 2, n + 1, 14, by omega, by go_num, by go_num, by go_num, rfl, by rw [TS.out]; exact HP.out, by omega, HA2.out, HB.out⟩, by simp [intOf]; omega⟩
        · have HP := hid (chk_put HC.out 15 (by omega) (by omega))
          go_wp2
          refine ⟨⟨k + 1, s + 1, n + 1, 15, by omega, by go_num, by go_num, by go_num, rfl, by rw [TS.out]; exact HP.out, by omega, HA2.out, HB.out⟩, by simp [intOf]; omega⟩
      · have hce : checkE l = 1 := by
          unfold checkE okLens
          rw [show l.all lenB = false from by
            rw [← Bool.not_eq_true, List.all_eq_true]
            exact fun a => hx (a x HM.out)]
          simp
        have HCE := hid hce
        have hx3 : x < 0 ∨ (¬ x < 0 ∧ 15 < x) := by
          unfold lenB at hx
          simp at hx
          omega
        clear hx hce
        rcases hx3 with hx3 | ⟨hx3, hx4⟩
        · go_wp2
          go_returns
          exact ⟨by rw [HCE.out]; rfl, HB.out⟩
        · go_wp2
          go_returns
          exact ⟨by rw [HCE.out]; rfl, HB.out⟩
    · obtain rfl : k = len := by omega
      rw [List.take_of_length_le (by rw [hll.out]; omega)] at HC HALL
      have hcc := chk_code HC.out
      have hok : okLens l = true := by
        unfold okLens
        rw [decide_eq_true (by rw [hll.out]; omega), Bool.true_and, List.all_eq_true]
        exact HALL.out
      have hce : checkE l = if codeB l then 0 else 3 := by unfold checkE; rw [hok, if_pos rfl]
      rw [hcc] at hce
      have HCE := hid hce
      clear hce hok hcc
      by_cases n0 : n = 0
      · subst n0
        have HE := hid (HCE.out.trans (by simp) : checkE l = 0)
        go_wp2
        go_returns
        exact ⟨by rw [HE.out]; rfl, HB.out⟩
      · have n0i : ¬ (n : Int) = 0 := by omega
        by_cases n1 : n = 1
        · subst n1
          by_cases l1 : last = 1
          · subst l1
            have HE := hid (HCE.out.trans (by simp) : checkE l = 0)
            go_wp2
            go_returns
            exact ⟨by rw [HE.out]; rfl, HB.out⟩
          · have l1i : ¬ (last : Int) = 1 := by omega
            by_cases s1 : s = 32768
            · subst s1
              have HE := hid (HCE.out.trans (by simp) : checkE l = 0)
              go_wp2
              go_returns
              exact ⟨by rw [HE.out]; rfl, HB.out⟩
            · have s1i : ¬ (s : Int) = 32768 := by omega
              have HE := hid (HCE.out.trans (by simp [l1, s1]) : checkE l = 3)
              go_wp2
              · rename_i h
                exfalso
                rcases h with h | h <;> (have := eq_of_beq h; omega)
              · go_returns
                exact ⟨by rw [HE.out]; rfl, HB.out⟩
        · have n1i : ¬ (n : Int) = 1 := by omega
          by_cases s1 : s = 32768
          · subst s1
            have HE := hid (HCE.out.trans (by simp) : checkE l = 0)
            go_wp2
            go_returns
            exact ⟨by rw [HE.out]; rfl, HB.out⟩
          · have s1i : ¬ (s : Int) = 32768 := by omega
            have HE := hid (HCE.out.trans (by simp [n0, n1, s1]) : checkE l = 3)
            go_wp2
            · rename_i h
              exfalso
              rcases h with h | h <;> (have := eq_of_beq h; omega)
            · go_returns
              exact ⟨by rw [HE.out]; rfl, HB.out⟩
theorem rcheck_any (a : Option Addr) (len cap : Nat) (l : List Int) (hll : Hid (l.length = len)) (w : World) (hst : ZsAt w a l) :
    Calls Try.prog 9 #[.slice a len cap] w fun e w' => e = .returned (.int .i64 (checkE l)) ∧ Bw w w' := by
  by_cases hb : 320 < len
  · have hok : okLens l = false := by unfold okLens; rw [decide_eq_false (by rw [hll.out]; omega)]; rfl
    have e2 : checkE l = 1 := by unfold checkE; rw [hok]; rfl
    rw [e2]
    exact rcheck_big a len cap hb w
  · exact rcheck_small a len cap (by omega) l hll w hst
end Go.Proofs.Ytcacnidlfjglbaa
