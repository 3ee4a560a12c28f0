/- Letters and digits, both sides (contracts of the functions). -/
import Derived.Test.YtlilmidffcmkjaaGreatDoorRows
import Derived.Test.YtlilmidffcmkjaaGreatDoorPlnE
namespace Go.Proofs.YtlilmidffcmkjaaGreatDoor
open Go.RowKit
set_option linter.unusedVariables false
set_option linter.unusedSimpArgs false
set_option maxHeartbeats 1000000 in
theorem isLetter_any (c : Nat) (hc : c < 256) (w : World) :
    Calls Tryz.prog 64 #[.int .u8 c] w fun e w' => e = .returned (.bool (isLet c)) ∧ w = w' := by
  rcases (show (0 ≤ c ∧ c ≤ 64) ∨ (65 ≤ c ∧ c ≤ 90) ∨ (91 ≤ c ∧ c ≤ 94) ∨ (95 ≤ c ∧ c ≤ 95) ∨ (96 ≤ c ∧ c ≤ 96) ∨ (97 ≤ c ∧ c ≤ 122) ∨ (123 ≤ c ∧ c ≤ 255) by omega) with ⟨h1, h2⟩ | ⟨h1, h2⟩ | ⟨h1, h2⟩ | ⟨h1, h2⟩ | ⟨h1, h2⟩ | ⟨h1, h2⟩ | ⟨h1, h2⟩
  · have HF := hid (show isLet c = false by unfold isLet; simp; omega)
    have t0 : decide ((65 : Int) ≤ ((c : Nat) : Int)) = false := decide_eq_false (by omega)
    have t1 : decide (65 ≤ c) = false := decide_eq_false (by omega)
    have t2 : decide (((c : Nat) : Int) ≤ 90) = true := decide_eq_true (by omega)
    have t3 : decide (c ≤ 90) = true := decide_eq_true (by omega)
    have t4 : decide ((97 : Int) ≤ ((c : Nat) : Int)) = false := decide_eq_false (by omega)
    have t5 : decide (97 ≤ c) = false := decide_eq_false (by omega)
    have t6 : decide (((c : Nat) : Int) ≤ 122) = true := decide_eq_true (by omega)
    have t7 : decide (c ≤ 122) = true := decide_eq_true (by omega)
    have t8 : ((((c : Nat) : Int)) == 95) = false := by simp; omega
    clear h1 h2
    go_enter Tryz.func64, Tryz.ntmps64
    go_wp2
    all_goals go_returns
    all_goals exact ⟨by rw [HF.out]; rfl, rfl⟩
  · have HF := hid (show isLet c = true by unfold isLet; simp; omega)
    have t0 : decide ((65 : Int) ≤ ((c : Nat) : Int)) = true := decide_eq_true (by omega)
    have t1 : decide (65 ≤ c) = true := decide_eq_true (by omega)
    have t2 : decide (((c : Nat) : Int) ≤ 90) = true := decide_eq_true (by omega)
    have t3 : decide (c ≤ 90) = true := decide_eq_true (by omega)
    have t4 : decide ((97 : Int) ≤ ((c : Nat) : Int)) = false := decide_eq_false (by omega)
    have t5 : decide (97 ≤ c) = false := decide_eq_false (by omega)
    have t6 : decide (((c : Nat) : Int) ≤ 122) = true := decide_eq_true (by omega)
    have t7 : decide (c ≤ 122) = true := decide_eq_true (by omega)
    have t8 : ((((c : Nat) : Int)) == 95) = false := by simp; omega
    clear h1 h2
    go_enter Tryz.func64, Tryz.ntmps64
    go_wp2
    all_goals go_returns
    all_goals exact ⟨by rw [HF.out]; rfl, rfl⟩
  · have HF := hid (show isLet c = false by unfold isLet; simp; omega)
    have t0 : decide ((65 : Int) ≤ ((c : Nat) : Int)) = true := decide_eq_true (by omega)
    have t1 : decide (65 ≤ c) = true := decide_eq_true (by omega)
    have t2 : decide (((c : Nat) : Int) ≤ 90) = false := decide_eq_false (by omega)
    have t3 : decide (c ≤ 90) = false := decide_eq_false (by omega)
    have t4 : decide ((97 : Int) ≤ ((c : Nat) : Int)) = false := decide_eq_false (by omega)
    have t5 : decide (97 ≤ c) = false := decide_eq_false (by omega)
    have t6 : decide (((c : Nat) : Int) ≤ 122) = true := decide_eq_true (by omega)
    have t7 : decide (c ≤ 122) = true := decide_eq_true (by omega)
    have t8 : ((((c : Nat) : Int)) == 95) = false := by simp; omega
    clear h1 h2
    go_enter Tryz.func64, Tryz.ntmps64
    go_wp2
    all_goals go_returns
    all_goals exact ⟨by rw [HF.out]; rfl, rfl⟩
  · have HF := hid (show isLet c = true by unfold isLet; simp; omega)
    have t0 : decide ((65 : Int) ≤ ((c : Nat) : Int)) = true := decide_eq_true (by omega)
    have t1 : decide (65 ≤ c) = true := decide_eq_true (by omega)
    have t2 : decide (((c : Nat) : Int) ≤ 90) = false := decide_eq_false (by omega)
    have t3 : decide (c ≤ 90) = false := decide_eq_false (by omega)
    have t4 : decide ((97 : Int) ≤ ((c : Nat) : Int)) = false := decide_eq_false (by omega)
    have t5 : decide (97 ≤ c) = false := decide_eq_false (by omega)
    have t6 : decide (((c : Nat) : Int) ≤ 122) = true := decide_eq_true (by omega)
    have t7 : decide (c ≤ 122) = true := decide_eq_true (by omega)
    have t8 : ((((c : Nat) : Int)) == 95) = true := by simp; omega
    clear h1 h2
    go_enter Tryz.func64, Tryz.ntmps64
    go_wp2
    all_goals go_returns
    all_goals exact ⟨by rw [HF.out]; rfl, rfl⟩
  · have HF := hid (show isLet c = false by unfold isLet; simp; omega)
    have t0 : decide ((65 : Int) ≤ ((c : Nat) : Int)) = true := decide_eq_true (by omega)
    have t1 : decide (65 ≤ c) = true := decide_eq_true (by omega)
    have t2 : decide (((c : Nat) : Int) ≤ 90) = false := decide_eq_false (by omega)
    have t3 : decide (c ≤ 90) = false := decide_eq_false (by omega)
    have t4 : decide ((97 : Int) ≤ ((c : Nat) : Int)) = false := decide_eq_false (by omega)
    have t5 : decide (97 ≤ c) = false := decide_eq_false (by omega)
    have t6 : decide (((c : Nat) : Int) ≤ 122) = true := decide_eq_true (by omega)
    have t7 : decide (c ≤ 122) = true := decide_eq_true (by omega)
    have t8 : ((((c : Nat) : Int)) == 95) = false := by simp; omega
    clear h1 h2
    go_enter Tryz.func64, Tryz.ntmps64
    go_wp2
    all_goals go_returns
    all_goals exact ⟨by rw [HF.out]; rfl, rfl⟩
  · have HF := hid (show isLet c = true by unfold isLet; simp; omega)
    have t0 : decide ((65 : Int) ≤ ((c : Nat) : Int)) = true := decide_eq_true (by omega)
    have t1 : decide (65 ≤ c) = true := decide_eq_true (by omega)
    have t2 : decide (((c : Nat) : Int) ≤ 90) = false := decide_eq_false (by omega)
    have t3 : decide (c ≤ 90) = false := decide_eq_false (by omega)
    have t4 : decide ((97 : Int) ≤ ((c : Nat) : Int)) = true := decide_eq_true (by omega)
    have t5 : decide (97 ≤ c) = true := decide_eq_true (by omega)
    have t6 : decide (((c : Nat) : Int) ≤ 122) = true := decide_eq_true (by omega)
    have t7 : decide (c ≤ 122) = true := decide_eq_true (by omega)
    have t8 : ((((c : Nat) : Int)) == 95) = false := by simp; omega
    clear h1 h2
    go_enter Tryz.func64, Tryz.ntmps64
    go_wp2
    all_goals go_returns
    all_goals exact ⟨by rw [HF.out]; rfl, rfl⟩
  · have HF := hid (show isLet c = false by unfold isLet; simp; omega)
    have t0 : decide ((65 : Int) ≤ ((c : Nat) : Int)) = true := decide_eq_true (by omega)
    have t1 : decide (65 ≤ c) = true := decide_eq_true (by omega)
    have t2 : decide (((c : Nat) : Int) ≤ 90) = false := decide_eq_false (by omega)
    have t3 : decide (c ≤ 90) = false := decide_eq_false (by omega)
    have t4 : decide ((97 : Int) ≤ ((c : Nat) : Int)) = true := decide_eq_true (by omega)
    have t5 : decide (97 ≤ c) = true := decide_eq_true (by omega)
    have t6 : decide (((c : Nat) : Int) ≤ 122) = false := decide_eq_false (by omega)
    have t7 : decide (c ≤ 122) = false := decide_eq_false (by omega)
    have t8 : ((((c : Nat) : Int)) == 95) = false := by simp; omega
    clear h1 h2
    go_enter Tryz.func64, Tryz.ntmps64
    go_wp2
    all_goals go_returns
    all_goals exact ⟨by rw [HF.out]; rfl, rfl⟩
set_option maxHeartbeats 1000000 in
theorem isDigit_any (c : Nat) (hc : c < 256) (w : World) :
    Calls Tryz.prog 65 #[.int .u8 c] w fun e w' => e = .returned (.bool (isDig c)) ∧ w = w' := by
  rcases (show (0 ≤ c ∧ c ≤ 47) ∨ (48 ≤ c ∧ c ≤ 57) ∨ (58 ≤ c ∧ c ≤ 255) by omega) with ⟨h1, h2⟩ | ⟨h1, h2⟩ | ⟨h1, h2⟩
  · have HF := hid (show isDig c = false by unfold isDig; simp; omega)
    have t0 : decide ((48 : Int) ≤ ((c : Nat) : Int)) = false := decide_eq_false (by omega)
    have t1 : decide (48 ≤ c) = false := decide_eq_false (by omega)
    have t2 : decide (((c : Nat) : Int) ≤ 57) = true := decide_eq_true (by omega)
    have t3 : decide (c ≤ 57) = true := decide_eq_true (by omega)
    clear h1 h2
    go_enter Tryz.func65, Tryz.ntmps65
    go_wp2
    all_goals go_returns
    all_goals exact ⟨by rw [HF.out]; rfl, rfl⟩
  · have HF := hid (show isDig c = true by unfold isDig; simp; omega)
    have t0 : decide ((48 : Int) ≤ ((c : Nat) : Int)) = true := decide_eq_true (by omega)
    have t1 : decide (48 ≤ c) = true := decide_eq_true (by omega)
    have t2 : decide (((c : Nat) : Int) ≤ 57) = true := decide_eq_true (by omega)
    have t3 : decide (c ≤ 57) = true := decide_eq_true (by omega)
    clear h1 h2
    go_enter Tryz.func65, Tryz.ntmps65
    go_wp2
    all_goals go_returns
    all_goals exact ⟨by rw [HF.out]; rfl, rfl⟩
  · have HF := hid (show isDig c = false by unfold isDig; simp; omega)
    have t0 : decide ((48 : Int) ≤ ((c : Nat) : Int)) = true := decide_eq_true (by omega)
    have t1 : decide (48 ≤ c) = true := decide_eq_true (by omega)
    have t2 : decide (((c : Nat) : Int) ≤ 57) = false := decide_eq_false (by omega)
    have t3 : decide (c ≤ 57) = false := decide_eq_false (by omega)
    clear h1 h2
    go_enter Tryz.func65, Tryz.ntmps65
    go_wp2
    all_goals go_returns
    all_goals exact ⟨by rw [HF.out]; rfl, rfl⟩
set_option maxHeartbeats 1000000 in
theorem rLetter_any (c : Nat) (hc : c < 256) (w : World) :
    Calls Tryz.prog 39 #[.int .u8 c] w fun e w' => e = .returned (.bool (isLet c)) ∧ w = w' := by
  rcases (show (0 ≤ c ∧ c ≤ 64) ∨ (65 ≤ c ∧ c ≤ 90) ∨ (91 ≤ c ∧ c ≤ 94) ∨ (95 ≤ c ∧ c ≤ 95) ∨ (96 ≤ c ∧ c ≤ 96) ∨ (97 ≤ c ∧ c ≤ 122) ∨ (123 ≤ c ∧ c ≤ 255) by omega) with ⟨h1, h2⟩ | ⟨h1, h2⟩ | ⟨h1, h2⟩ | ⟨h1, h2⟩ | ⟨h1, h2⟩ | ⟨h1, h2⟩ | ⟨h1, h2⟩
  · have HF := hid (show isLet c = false by unfold isLet; simp; omega)
    have t0 : decide ((65 : Int) ≤ ((c : Nat) : Int)) = false := decide_eq_false (by omega)
    have t1 : decide (65 ≤ c) = false := decide_eq_false (by omega)
    have t2 : decide (((c : Nat) : Int) ≤ 90) = true := decide_eq_true (by omega)
    have t3 : decide (c ≤ 90) = true := decide_eq_true (by omega)
    have t4 : decide ((97 : Int) ≤ ((c : Nat) : Int)) = false := decide_eq_false (by omega)
    have t5 : decide (97 ≤ c) = false := decide_eq_false (by omega)
    have t6 : decide (((c : Nat) : Int) ≤ 122) = true := decide_eq_true (by omega)
    have t7 : decide (c ≤ 122) = true := decide_eq_true (by omega)
    have t8 : ((((c : Nat) : Int)) == 95) = false := by simp; omega
    clear h1 h2
    go_enter Tryz.func39, Tryz.ntmps39
    go_wp2
    all_goals go_returns
    all_goals exact ⟨by rw [HF.out]; rfl, rfl⟩
  · have HF := hid (show isLet c = true by unfold isLet; simp; omega)
    have t0 : decide ((65 : Int) ≤ ((c : Nat) : Int)) = true := decide_eq_true (by omega)
    have t1 : decide (65 ≤ c) = true := decide_eq_true (by omega)
    have t2 : decide (((c : Nat) : Int) ≤ 90) = true := decide_eq_true (by omega)
    have t3 : decide (c ≤ 90) = true := decide_eq_true (by omega)
    have t4 : decide ((97 : Int) ≤ ((c : Nat) : Int)) = false := decide_eq_false (by omega)
    have t5 : decide (97 ≤ c) = false := decide_eq_false (by omega)
    have t6 : decide (((c : Nat) : Int) ≤ 122) = true := decide_eq_true (by omega)
    have t7 : decide (c ≤ 122) = true := decide_eq_true (by omega)
    have t8 : ((((c : Nat) : Int)) == 95) = false := by simp; omega
    clear h1 h2
    go_enter Tryz.func39, Tryz.ntmps39
    go_wp2
    all_goals go_returns
    all_goals exact ⟨by rw [HF.out]; rfl, rfl⟩
  · have HF := hid (show isLet c = false by unfold isLet; simp; omega)
    have t0 : decide ((65 : Int) ≤ ((c : Nat) : Int)) = true := decide_eq_true (by omega)
    have t1 : decide (65 ≤ c) = true := decide_eq_true (by omega)
    have t2 : decide (((c : Nat) : Int) ≤ 90) = false := decide_eq_false (by omega)
    have t3 : decide (c ≤ 90) = false := decide_eq_false (by omega)
    have t4 : decide ((97 : Int) ≤ ((c : Nat) : Int)) = false := decide_eq_false (by omega)
    have t5 : decide (97 ≤ c) = false := decide_eq_false (by omega)
    have t6 : decide (((c : Nat) : Int) ≤ 122) = true := decide_eq_true (by omega)
    have t7 : decide (c ≤ 122) = true := decide_eq_true (by omega)
    have t8 : ((((c : Nat) : Int)) == 95) = false := by simp; omega
    clear h1 h2
    go_enter Tryz.func39, Tryz.ntmps39
    go_wp2
    all_goals go_returns
    all_goals exact ⟨by rw [HF.out]; rfl, rfl⟩
  · have HF := hid (show isLet c = true by unfold isLet; simp; omega)
    have t0 : decide ((65 : Int) ≤ ((c : Nat) : Int)) = true := decide_eq_true (by omega)
    have t1 : decide (65 ≤ c) = true := decide_eq_true (by omega)
    have t2 : decide (((c : Nat) : Int) ≤ 90) = false := decide_eq_false (by omega)
    have t3 : decide (c ≤ 90) = false := decide_eq_false (by omega)
    have t4 : decide ((97 : Int) ≤ ((c : Nat) : Int)) = false := decide_eq_false (by omega)
    have t5 : decide (97 ≤ c) = false := decide_eq_false (by omega)
    have t6 : decide (((c : Nat) : Int) ≤ 122) = true := decide_eq_true (by omega)
    have t7 : decide (c ≤ 122) = true := decide_eq_true (by omega)
    have t8 : ((((c : Nat) : Int)) == 95) = true := by simp; omega
    clear h1 h2
    go_enter Tryz.func39, Tryz.ntmps39
    go_wp2
    all_goals go_returns
    all_goals exact ⟨by rw [HF.out]; rfl, rfl⟩
  · have HF := hid (show isLet c = false by unfold isLet; simp; omega)
    have t0 : decide ((65 : Int) ≤ ((c : Nat) : Int)) = true := decide_eq_true (by omega)
    have t1 : decide (65 ≤ c) = true := decide_eq_true (by omega)
    have t2 : decide (((c : Nat) : Int) ≤ 90) = false := decide_eq_false (by omega)
    have t3 : decide (c ≤ 90) = false := decide_eq_false (by omega)
    have t4 : decide ((97 : Int) ≤ ((c : Nat) : Int)) = false := decide_eq_false (by omega)
    have t5 : decide (97 ≤ c) = false := decide_eq_false (by omega)
    have t6 : decide (((c : Nat) : Int) ≤ 122) = true := decide_eq_true (by omega)
    have t7 : decide (c ≤ 122) = true := decide_eq_true (by omega)
    have t8 : ((((c : Nat) : Int)) == 95) = false := by simp; omega
    clear h1 h2
    go_enter Tryz.func39, Tryz.ntmps39
    go_wp2
    all_goals go_returns
    all_goals exact ⟨by rw [HF.out]; rfl, rfl⟩
  · have HF := hid (show isLet c = true by unfold isLet; simp; omega)
    have t0 : decide ((65 : Int) ≤ ((c : Nat) : Int)) = true := decide_eq_true (by omega)
    have t1 : decide (65 ≤ c) = true := decide_eq_true (by omega)
    have t2 : decide (((c : Nat) : Int) ≤ 90) = false := decide_eq_false (by omega)
    have t3 : decide (c ≤ 90) = false := decide_eq_false (by omega)
    have t4 : decide ((97 : Int) ≤ ((c : Nat) : Int)) = true := decide_eq_true (by omega)
    have t5 : decide (97 ≤ c) = true := decide_eq_true (by omega)
    have t6 : decide (((c : Nat) : Int) ≤ 122) = true := decide_eq_true (by omega)
    have t7 : decide (c ≤ 122) = true := decide_eq_true (by omega)
    have t8 : ((((c : Nat) : Int)) == 95) = false := by simp; omega
    clear h1 h2
    go_enter Tryz.func39, Tryz.ntmps39
    go_wp2
    all_goals go_returns
    all_goals exact ⟨by rw [HF.out]; rfl, rfl⟩
  · have HF := hid (show isLet c = false by unfold isLet; simp; omega)
    have t0 : decide ((65 : Int) ≤ ((c : Nat) : Int)) = true := decide_eq_true (by omega)
    have t1 : decide (65 ≤ c) = true := decide_eq_true (by omega)
    have t2 : decide (((c : Nat) : Int) ≤ 90) = false := decide_eq_false (by omega)
    have t3 : decide (c ≤ 90) = false := decide_eq_false (by omega)
    have t4 : decide ((97 : Int) ≤ ((c : Nat) : Int)) = true := decide_eq_true (by omega)
    have t5 : decide (97 ≤ c) = true := decide_eq_true (by omega)
    have t6 : decide (((c : Nat) : Int) ≤ 122) = false := decide_eq_false (by omega)
    have t7 : decide (c ≤ 122) = false := decide_eq_false (by omega)
    have t8 : ((((c : Nat) : Int)) == 95) = false := by simp; omega
    clear h1 h2
    go_enter Tryz.func39, Tryz.ntmps39
    go_wp2
    all_goals go_returns
    all_goals exact ⟨by rw [HF.out]; rfl, rfl⟩
set_option maxHeartbeats 1000000 in
theorem rDigit_any (c : Nat) (hc : c < 256) (w : World) :
    Calls Tryz.prog 40 #[.int .u8 c] w fun e w' => e = .returned (.bool (isDig c)) ∧ w = w' := by
  rcases (show (0 ≤ c ∧ c ≤ 47) ∨ (48 ≤ c ∧ c ≤ 57) ∨ (58 ≤ c ∧ c ≤ 255) by omega) with ⟨h1, h2⟩ | ⟨h1, h2⟩ | ⟨h1, h2⟩
  · have HF := hid (show isDig c = false by unfold isDig; simp; omega)
    have t0 : decide ((48 : Int) ≤ ((c : Nat) : Int)) = false := decide_eq_false (by omega)
    have t1 : decide (48 ≤ c) = false := decide_eq_false (by omega)
    have t2 : decide (((c : Nat) : Int) ≤ 57) = true := decide_eq_true (by omega)
    have t3 : decide (c ≤ 57) = true := decide_eq_true (by omega)
    clear h1 h2
    go_enter Tryz.func40, Tryz.ntmps40
    go_wp2
    all_goals go_returns
    all_goals exact ⟨by rw [HF.out]; rfl, rfl⟩
  · have HF := hid (show isDig c = true by unfold isDig; simp; omega)
    have t0 : decide ((48 : Int) ≤ ((c : Nat) : Int)) = true := decide_eq_true (by omega)
    have t1 : decide (48 ≤ c) = true := decide_eq_true (by omega)
    have t2 : decide (((c : Nat) : Int) ≤ 57) = true := decide_eq_true (by omega)
    have t3 : decide (c ≤ 57) = true := decide_eq_true (by omega)
    clear h1 h2
    go_enter Tryz.func40, Tryz.ntmps40
    go_wp2
    all_goals go_returns
    all_goals exact ⟨by rw [HF.out]; rfl, rfl⟩
  · have HF := hid (show isDig c = false by unfold isDig; simp; omega)
    have t0 : decide ((48 : Int) ≤ ((c : Nat) : Int)) = true := decide_eq_true (by omega)
    have t1 : decide (48 ≤ c) = true := decide_eq_true (by omega)
    have t2 : decide (((c : Nat) : Int) ≤ 57) = false := decide_eq_false (by omega)
    have t3 : decide (c ≤ 57) = false := decide_eq_false (by omega)
    clear h1 h2
    go_enter Tryz.func40, Tryz.ntmps40
    go_wp2
    all_goals go_returns
    all_goals exact ⟨by rw [HF.out]; rfl, rfl⟩
end Go.Proofs.YtlilmidffcmkjaaGreatDoor
