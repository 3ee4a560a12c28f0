import Derived.Test.YtkmbgkcpohchhaaGreatDoorGHufA3
import Derived.BigRegion
/- tally.firsts (contract of the function). -/
namespace Go.Proofs.YtkmbgkcpohchhaaGreatDoor
open Go.RowKit
set_option linter.unusedVariables false
/-- The first code of each length. -/
def fstC (l : List Int) : Nat → Nat
  | 0 => 0
  | n + 1 => (fstC l n + tal l n) * 2
theorem fstC_le (l : List Int) (h : l.length ≤ 320) (n : Nat) (hn : n ≤ 16) : fstC l n ≤ 41943040 := by
  have key : ∀ n, fstC l n + 640 ≤ 640 * 2 ^ n := by
    intro n
    induction n with
    | zero => simp [fstC]
    | succ n ih =>
      have := tal_le l n
      show (fstC l n + tal l n) * 2 + 640 ≤ _
      rw [Nat.pow_succ]
      omega
  have h1 := key n
  have h2 : 2 ^ n ≤ 2 ^ 16 := Nat.pow_le_pow_right (by decide) hn
  omega
/-- The array when those below k are laid. -/
def fArr (l : List Int) (k : Nat) : Array Value := #[.int .i64 (if 0 < k then (fstC l 0 : Nat) else 0 : Nat), .int .i64 (if 1 < k then (fstC l 1 : Nat) else 0 : Nat), .int .i64 (if 2 < k then (fstC l 2 : Nat) else 0 : Nat), .int .i64 (if 3 < k then (fstC l 3 : Nat) else 0 : Nat), .int .i64 (if 4 < k then (fstC l 4 : Nat) else 0 : Nat), .int .i64 (if 5 < k then (fstC l 5 : Nat) else 0 : Nat), .int .i64 (if 6 < k then (fstC l 6 : Nat) else 0 : Nat), .int .i64 (if 7 < k then (fstC l 7 : Nat) else 0 : Nat), .int .i64 (if 8 < k then (fstC l 8 : Nat) else 0 : Nat), .int .i64 (if 9 < k then (fstC l 9 : Nat) else 0 : Nat), .int .i64 (if 10 < k then (fstC l 10 : Nat) else 0 : Nat), .int .i64 (if 11 < k then (fstC l 11 : Nat) else 0 : Nat), .int .i64 (if 12 < k then (fstC l 12 : Nat) else 0 : Nat), .int .i64 (if 13 < k then (fstC l 13 : Nat) else 0 : Nat), .int .i64 (if 14 < k then (fstC l 14 : Nat) else 0 : Nat), .int .i64 (if 15 < k then (fstC l 15 : Nat) else 0 : Nat)]
set_option maxRecDepth 100000 in
set_option maxHeartbeats 8000000 in
theorem firsts_any (l : List Int) (h320 : l.length ≤ 320) (w : World) :
    Calls Tryz.prog 117 #[.agg #[.int .i64 (tal l 0 : Nat), .int .i64 (tal l 1 : Nat), .int .i64 (tal l 2 : Nat), .int .i64 (tal l 3 : Nat), .int .i64 (tal l 4 : Nat), .int .i64 (tal l 5 : Nat), .int .i64 (tal l 6 : Nat), .int .i64 (tal l 7 : Nat), .int .i64 (tal l 8 : Nat), .int .i64 (tal l 9 : Nat), .int .i64 (tal l 10 : Nat), .int .i64 (tal l 11 : Nat), .int .i64 (tal l 12 : Nat), .int .i64 (tal l 13 : Nat), .int .i64 (tal l 14 : Nat), .int .i64 (tal l 15 : Nat)]] w fun e w' => e = .returned (.agg #[.int .i64 (fstC l 0 : Nat), .int .i64 (fstC l 1 : Nat), .int .i64 (fstC l 2 : Nat), .int .i64 (fstC l 3 : Nat), .int .i64 (fstC l 4 : Nat), .int .i64 (fstC l 5 : Nat), .int .i64 (fstC l 6 : Nat), .int .i64 (fstC l 7 : Nat), .int .i64 (fstC l 8 : Nat), .int .i64 (fstC l 9 : Nat), .int .i64 (fstC l 10 : Nat), .int .i64 (fstC l 11 : Nat), .int .i64 (fstC l 12 : Nat), .int .i64 (fstC l 13 : Nat), .int .i64 (fstC l 14 : Nat), .int .i64 (fstC l 15 : Nat)]) ∧ Bw w w' := by
  have ht : Has (((w.alloc (.cells #[.int .i64 (tal l 0 : Nat), .int .i64 (tal l 1 : Nat), .int .i64 (tal l 2 : Nat), .int .i64 (tal l 3 : Nat), .int .i64 (tal l 4 : Nat), .int .i64 (tal l 5 : Nat), .int .i64 (tal l 6 : Nat), .int .i64 (tal l 7 : Nat), .int .i64 (tal l 8 : Nat), .int .i64 (tal l 9 : Nat), .int .i64 (tal l 10 : Nat), .int .i64 (tal l 11 : Nat), .int .i64 (tal l 12 : Nat), .int .i64 (tal l 13 : Nat), .int .i64 (tal l 14 : Nat), .int .i64 (tal l 15 : Nat)] 170)).alloc (.cells #[.int .i64 0, .int .i64 0, .int .i64 0, .int .i64 0, .int .i64 0, .int .i64 0, .int .i64 0, .int .i64 0, .int .i64 0, .int .i64 0, .int .i64 0, .int .i64 0, .int .i64 0, .int .i64 0, .int .i64 0, .int .i64 0] 169)).alloc (.cells #[.int .i64 0, .int .i64 0, .int .i64 0, .int .i64 0, .int .i64 0, .int .i64 0, .int .i64 0, .int .i64 0, .int .i64 0, .int .i64 0, .int .i64 0, .int .i64 0, .int .i64 0, .int .i64 0, .int .i64 0, .int .i64 0] 169)) w.heap.size 170 #[.int .i64 (tal l 0 : Nat), .int .i64 (tal l 1 : Nat), .int .i64 (tal l 2 : Nat), .int .i64 (tal l 3 : Nat), .int .i64 (tal l 4 : Nat), .int .i64 (tal l 5 : Nat), .int .i64 (tal l 6 : Nat), .int .i64 (tal l 7 : Nat), .int .i64 (tal l 8 : Nat), .int .i64 (tal l 9 : Nat), .int .i64 (tal l 10 : Nat), .int .i64 (tal l 11 : Nat), .int .i64 (tal l 12 : Nat), .int .i64 (tal l 13 : Nat), .int .i64 (tal l 14 : Nat), .int .i64 (tal l 15 : Nat)] := ((Has.new w _ _).alloc _).alloc _
  have hr : Has (((w.alloc (.cells #[.int .i64 (tal l 0 : Nat), .int .i64 (tal l 1 : Nat), .int .i64 (tal l 2 : Nat), .int .i64 (tal l 3 : Nat), .int .i64 (tal l 4 : Nat), .int .i64 (tal l 5 : Nat), .int .i64 (tal l 6 : Nat), .int .i64 (tal l 7 : Nat), .int .i64 (tal l 8 : Nat), .int .i64 (tal l 9 : Nat), .int .i64 (tal l 10 : Nat), .int .i64 (tal l 11 : Nat), .int .i64 (tal l 12 : Nat), .int .i64 (tal l 13 : Nat), .int .i64 (tal l 14 : Nat), .int .i64 (tal l 15 : Nat)] 170)).alloc (.cells #[.int .i64 0, .int .i64 0, .int .i64 0, .int .i64 0, .int .i64 0, .int .i64 0, .int .i64 0, .int .i64 0, .int .i64 0, .int .i64 0, .int .i64 0, .int .i64 0, .int .i64 0, .int .i64 0, .int .i64 0, .int .i64 0] 169)).alloc (.cells #[.int .i64 0, .int .i64 0, .int .i64 0, .int .i64 0, .int .i64 0, .int .i64 0, .int .i64 0, .int .i64 0, .int .i64 0, .int .i64 0, .int .i64 0, .int .i64 0, .int .i64 0, .int .i64 0, .int .i64 0, .int .i64 0] 169)) (w.heap.size + 1) 169 #[.int .i64 0, .int .i64 0, .int .i64 0, .int .i64 0, .int .i64 0, .int .i64 0, .int .i64 0, .int .i64 0, .int .i64 0, .int .i64 0, .int .i64 0, .int .i64 0, .int .i64 0, .int .i64 0, .int .i64 0, .int .i64 0] := by
    have h := (Has.new (w.alloc (.cells #[.int .i64 (tal l 0 : Nat), .int .i64 (tal l 1 : Nat), .int .i64 (tal l 2 : Nat), .int .i64 (tal l 3 : Nat), .int .i64 (tal l 4 : Nat), .int .i64 (tal l 5 : Nat), .int .i64 (tal l 6 : Nat), .int .i64 (tal l 7 : Nat), .int .i64 (tal l 8 : Nat), .int .i64 (tal l 9 : Nat), .int .i64 (tal l 10 : Nat), .int .i64 (tal l 11 : Nat), .int .i64 (tal l 12 : Nat), .int .i64 (tal l 13 : Nat), .int .i64 (tal l 14 : Nat), .int .i64 (tal l 15 : Nat)] 170)) 169 #[.int .i64 0, .int .i64 0, .int .i64 0, .int .i64 0, .int .i64 0, .int .i64 0, .int .i64 0, .int .i64 0, .int .i64 0, .int .i64 0, .int .i64 0, .int .i64 0, .int .i64 0, .int .i64 0, .int .i64 0, .int .i64 0]).alloc (.cells #[.int .i64 0, .int .i64 0, .int .i64 0, .int .i64 0, .int .i64 0, .int .i64 0, .int .i64 0, .int .i64 0, .int .i64 0, .int .i64 0, .int .i64 0, .int .i64 0, .int .i64 0, .int .i64 0, .int .i64 0, .int .i64 0] 169)
    simpa using h
  have hf : Has (((w.alloc (.cells #[.int .i64 (tal l 0 : Nat), .int .i64 (tal l 1 : Nat), .int .i64 (tal l 2 : Nat), .int .i64 (tal l 3 : Nat), .int .i64 (tal l 4 : Nat), .int .i64 (tal l 5 : Nat), .int .i64 (tal l 6 : Nat), .int .i64 (tal l 7 : Nat), .int .i64 (tal l 8 : Nat), .int .i64 (tal l 9 : Nat), .int .i64 (tal l 10 : Nat), .int .i64 (tal l 11 : Nat), .int .i64 (tal l 12 : Nat), .int .i64 (tal l 13 : Nat), .int .i64 (tal l 14 : Nat), .int .i64 (tal l 15 : Nat)] 170)).alloc (.cells #[.int .i64 0, .int .i64 0, .int .i64 0, .int .i64 0, .int .i64 0, .int .i64 0, .int .i64 0, .int .i64 0, .int .i64 0, .int .i64 0, .int .i64 0, .int .i64 0, .int .i64 0, .int .i64 0, .int .i64 0, .int .i64 0] 169)).alloc (.cells #[.int .i64 0, .int .i64 0, .int .i64 0, .int .i64 0, .int .i64 0, .int .i64 0, .int .i64 0, .int .i64 0, .int .i64 0, .int .i64 0, .int .i64 0, .int .i64 0, .int .i64 0, .int .i64 0, .int .i64 0, .int .i64 0] 169)) (w.heap.size + 1 + 1) 169 #[.int .i64 0, .int .i64 0, .int .i64 0, .int .i64 0, .int .i64 0, .int .i64 0, .int .i64 0, .int .i64 0, .int .i64 0, .int .i64 0, .int .i64 0, .int .i64 0, .int .i64 0, .int .i64 0, .int .i64 0, .int .i64 0] := by
    have h := Has.new ((w.alloc (.cells #[.int .i64 (tal l 0 : Nat), .int .i64 (tal l 1 : Nat), .int .i64 (tal l 2 : Nat), .int .i64 (tal l 3 : Nat), .int .i64 (tal l 4 : Nat), .int .i64 (tal l 5 : Nat), .int .i64 (tal l 6 : Nat), .int .i64 (tal l 7 : Nat), .int .i64 (tal l 8 : Nat), .int .i64 (tal l 9 : Nat), .int .i64 (tal l 10 : Nat), .int .i64 (tal l 11 : Nat), .int .i64 (tal l 12 : Nat), .int .i64 (tal l 13 : Nat), .int .i64 (tal l 14 : Nat), .int .i64 (tal l 15 : Nat)] 170)).alloc (.cells #[.int .i64 0, .int .i64 0, .int .i64 0, .int .i64 0, .int .i64 0, .int .i64 0, .int .i64 0, .int .i64 0, .int .i64 0, .int .i64 0, .int .i64 0, .int .i64 0, .int .i64 0, .int .i64 0, .int .i64 0, .int .i64 0] 169)) 169 #[.int .i64 0, .int .i64 0, .int .i64 0, .int .i64 0, .int .i64 0, .int .i64 0, .int .i64 0, .int .i64 0, .int .i64 0, .int .i64 0, .int .i64 0, .int .i64 0, .int .i64 0, .int .i64 0, .int .i64 0, .int .i64 0]
    simpa using h
  have HT := hid ht
  have HR := hid hr
  have HF0 := hid hf
  have HW := hid ((((Bw.refl w).alloc (.cells #[.int .i64 (tal l 0 : Nat), .int .i64 (tal l 1 : Nat), .int .i64 (tal l 2 : Nat), .int .i64 (tal l 3 : Nat), .int .i64 (tal l 4 : Nat), .int .i64 (tal l 5 : Nat), .int .i64 (tal l 6 : Nat), .int .i64 (tal l 7 : Nat), .int .i64 (tal l 8 : Nat), .int .i64 (tal l 9 : Nat), .int .i64 (tal l 10 : Nat), .int .i64 (tal l 11 : Nat), .int .i64 (tal l 12 : Nat), .int .i64 (tal l 13 : Nat), .int .i64 (tal l 14 : Nat), .int .i64 (tal l 15 : Nat)] 170)).alloc (.cells #[.int .i64 0, .int .i64 0, .int .i64 0, .int .i64 0, .int .i64 0, .int .i64 0, .int .i64 0, .int .i64 0, .int .i64 0, .int .i64 0, .int .i64 0, .int .i64 0, .int .i64 0, .int .i64 0, .int .i64 0, .int .i64 0] 169)).alloc (.cells #[.int .i64 0, .int .i64 0, .int .i64 0, .int .i64 0, .int .i64 0, .int .i64 0, .int .i64 0, .int .i64 0, .int .i64 0, .int .i64 0, .int .i64 0, .int .i64 0, .int .i64 0, .int .i64 0, .int .i64 0, .int .i64 0] 169))
  clear ht hr hf
  go_enter Tryz.func117, Tryz.ntmps117
  go_wp2_with fail
  generalize ((w.alloc (.cells #[.int .i64 (tal l 0 : Nat), .int .i64 (tal l 1 : Nat), .int .i64 (tal l 2 : Nat), .int .i64 (tal l 3 : Nat), .int .i64 (tal l 4 : Nat), .int .i64 (tal l 5 : Nat), .int .i64 (tal l 6 : Nat), .int .i64 (tal l 7 : Nat), .int .i64 (tal l 8 : Nat), .int .i64 (tal l 9 : Nat), .int .i64 (tal l 10 : Nat), .int .i64 (tal l 11 : Nat), .int .i64 (tal l 12 : Nat), .int .i64 (tal l 13 : Nat), .int .i64 (tal l 14 : Nat), .int .i64 (tal l 15 : Nat)] 170)).alloc (.cells #[.int .i64 0, .int .i64 0, .int .i64 0, .int .i64 0, .int .i64 0, .int .i64 0, .int .i64 0, .int .i64 0, .int .i64 0, .int .i64 0, .int .i64 0, .int .i64 0, .int .i64 0, .int .i64 0, .int .i64 0, .int .i64 0] 169)).alloc (.cells #[.int .i64 0, .int .i64 0, .int .i64 0, .int .i64 0, .int .i64 0, .int .i64 0, .int .i64 0, .int .i64 0, .int .i64 0, .int .i64 0, .int .i64 0, .int .i64 0, .int .i64 0, .int .i64 0, .int .i64 0, .int .i64 0] 169) = W0 at *
  go_loopw [4] (fun n wr => ∃ k : Nat, 1 ≤ k ∧ k ≤ 16 ∧ n = .int .i64 k ∧ Has wr (w.heap.size) 170 #[.int .i64 (tal l 0 : Nat), .int .i64 (tal l 1 : Nat), .int .i64 (tal l 2 : Nat), .int .i64 (tal l 3 : Nat), .int .i64 (tal l 4 : Nat), .int .i64 (tal l 5 : Nat), .int .i64 (tal l 6 : Nat), .int .i64 (tal l 7 : Nat), .int .i64 (tal l 8 : Nat), .int .i64 (tal l 9 : Nat), .int .i64 (tal l 10 : Nat), .int .i64 (tal l 11 : Nat), .int .i64 (tal l 12 : Nat), .int .i64 (tal l 13 : Nat), .int .i64 (tal l 14 : Nat), .int .i64 (tal l 15 : Nat)] ∧ Has wr (w.heap.size + 1) 169 #[.int .i64 0, .int .i64 0, .int .i64 0, .int .i64 0, .int .i64 0, .int .i64 0, .int .i64 0, .int .i64 0, .int .i64 0, .int .i64 0, .int .i64 0, .int .i64 0, .int .i64 0, .int .i64 0, .int .i64 0, .int .i64 0] ∧ Has wr (w.heap.size + 1 + 1) 169 (fArr l k) ∧ Bw w wr) (fun n _ => 16 - (intOf n).toNat)
  case atStart => exact ⟨1, by omega, by omega, rfl, HT.out, HR.out, HF0.out, HW.out⟩
  case round =>
    rename World => wr
    obtain ⟨k, hk1, hk, rfl, htr, hrr, hfr, hbw⟩ := hrel
    have HTR := hid htr
    have HRR := hid hrr
    have HF := hid hfr
    have HB := hid hbw
    clear HT HR HF0 HW htr hrr hfr hbw
    by_cases hlt : k < 16
    · have hor : k = 1 ∨ k = 2 ∨ k = 3 ∨ k = 4 ∨ k = 5 ∨ k = 6 ∨ k = 7 ∨ k = 8 ∨ k = 9 ∨ k = 10 ∨ k = 11 ∨ k = 12 ∨ k = 13 ∨ k = 14 ∨ k = 15 := by omega
      rcases hor with rfl | rfl | rfl | rfl | rfl | rfl | rfl | rfl | rfl | rfl | rfl | rfl | rfl | rfl | rfl
      · rw [show fArr l 1 = #[.int .i64 (fstC l 0 : Nat), .int .i64 0, .int .i64 0, .int .i64 0, .int .i64 0, .int .i64 0, .int .i64 0, .int .i64 0, .int .i64 0, .int .i64 0, .int .i64 0, .int .i64 0, .int .i64 0, .int .i64 0, .int .i64 0, .int .i64 0] from rfl] at HF
        have c0 : wr.cell? ⟨w.heap.size, 0, none⟩ = some (.int .i64 (tal l 0 : Nat)) := HTR.out.cell 0
        have c1 : wr.cell? ⟨w.heap.size + 1 + 1, 0, none⟩ = some (.int .i64 (fstC l 0 : Nat)) := HF.out.cell 0
        have c2 : wr.cell? ⟨w.heap.size + 1 + 1, 1, none⟩ = some (.int .i64 0) := HF.out.cell 1
        have c3 := HF.out.frozen 1
        have hb1 := fstC_le l h320 0 (by omega)
        have hb2 := tal_le l 0
        have HP := hid (HF.out.put 1 (.int .i64 (fstC l 1 : Nat)))
        have HS := hid (show fstC l 1 = (fstC l 0 + tal l 0) * 2 from rfl)
        have hw1 : IntKind.i64.wrap (((fstC l 0 : Nat) : Int) + (tal l 0 : Nat)) = ((fstC l 0 : Nat) : Int) + (tal l 0 : Nat) := by rw [IntKind.wrap_i64]; omega
        have hw2 : IntKind.i64.wrap ((((fstC l 0 : Nat) : Int) + (tal l 0 : Nat)) * 2) = (((fstC l 0 : Nat) : Int) + (tal l 0 : Nat)) * 2 := by rw [IntKind.wrap_i64]; omega
        go_wp2
        go_region
        go_wp2
        refine ⟨⟨2, by omega, by omega, rfl, ?_, ?_, ?_, ?_⟩, by simp [intOf]⟩
        · exact (HTR.out.drew).far (by simp; omega) _
        · exact (HRR.out.drew).far (by simp) _
        · have h := HP.out.drew
          have hv : ((fstC l 1 : Nat) : Int) = (((fstC l 0 : Nat) : Int) + (tal l 0 : Nat)) * 2 := by rw [HS.out]; omega
          rw [show fArr l 2 = #[.int .i64 (fstC l 0 : Nat), .int .i64 (fstC l 1 : Nat), .int .i64 0, .int .i64 0, .int .i64 0, .int .i64 0, .int .i64 0, .int .i64 0, .int .i64 0, .int .i64 0, .int .i64 0, .int .i64 0, .int .i64 0, .int .i64 0, .int .i64 0, .int .i64 0] from rfl, ← hv]
          simpa using h
        · exact Below.setCell (HB.out.drewN 1) (by simp; omega) _
      · rw [show fArr l 2 = #[.int .i64 (fstC l 0 : Nat), .int .i64 (fstC l 1 : Nat), .int .i64 0, .int .i64 0, .int .i64 0, .int .i64 0, .int .i64 0, .int .i64 0, .int .i64 0, .int .i64 0, .int .i64 0, .int .i64 0, .int .i64 0, .int .i64 0, .int .i64 0, .int .i64 0] from rfl] at HF
        have c0 : wr.cell? ⟨w.heap.size, 1, none⟩ = some (.int .i64 (tal l 1 : Nat)) := HTR.out.cell 1
        have c1 : wr.cell? ⟨w.heap.size + 1 + 1, 1, none⟩ = some (.int .i64 (fstC l 1 : Nat)) := HF.out.cell 1
        have c2 : wr.cell? ⟨w.heap.size + 1 + 1, 2, none⟩ = some (.int .i64 0) := HF.out.cell 2
        have c3 := HF.out.frozen 2
        have hb1 := fstC_le l h320 1 (by omega)
        have hb2 := tal_le l 1
        have HP := hid (HF.out.put 2 (.int .i64 (fstC l 2 : Nat)))
        have HS := hid (show fstC l 2 = (fstC l 1 + tal l 1) * 2 from rfl)
        have hw1 : IntKind.i64.wrap (((fstC l 1 : Nat) : Int) + (tal l 1 : Nat)) = ((fstC l 1 : Nat) : Int) + (tal l 1 : Nat) := by rw [IntKind.wrap_i64]; omega
        have hw2 : IntKind.i64.wrap ((((fstC l 1 : Nat) : Int) + (tal l 1 : Nat)) * 2) = (((fstC l 1 : Nat) : Int) + (tal l 1 : Nat)) * 2 := by rw [IntKind.wrap_i64]; omega
        go_wp2
        go_region
        go_wp2
        refine ⟨⟨3, by omega, by omega, rfl, ?_, ?_, ?_, ?_⟩, by simp [intOf]⟩
        · exact (HTR.out.drew).far (by simp; omega) _
        · exact (HRR.out.drew).far (by simp) _
        · have h := HP.out.drew
          have hv : ((fstC l 2 : Nat) : Int) = (((fstC l 1 : Nat) : Int) + (tal l 1 : Nat)) * 2 := by rw [HS.out]; omega
          rw [show fArr l 3 = #[.int .i64 (fstC l 0 : Nat), .int .i64 (fstC l 1 : Nat), .int .i64 (fstC l 2 : Nat), .int .i64 0, .int .i64 0, .int .i64 0, .int .i64 0, .int .i64 0, .int .i64 0, .int .i64 0, .int .i64 0, .int .i64 0, .int .i64 0, .int .i64 0, .int .i64 0, .int .i64 0] from rfl, ← hv]
          simpa using h
        · exact Below.setCell (HB.out.drewN 1) (by simp; omega) _
      · rw [show fArr l 3 = #[.int .i64 (fstC l 0 : Nat), .int .i64 (fstC l 1 : Nat), .int .i64 (fstC l 2 : Nat), .int .i64 0, .int .i64 0, .int .i64 0, .int .i64 0, .int .i64 0, .int .i64 0, .int .i64 0, .int .i64 0, .int .i64 0, .int .i64 0, .int .i64 0, .int .i64 0, .int .i64 0] from rfl] at HF
        have c0 : wr.cell? ⟨w.heap.size, 2, none⟩ = some (.int .i64 (tal l 2 : Nat)) := HTR.out.cell 2
        have c1 : wr.cell? ⟨w.heap.size + 1 + 1, 2, none⟩ = some (.int .i64 (fstC l 2 : Nat)) := HF.out.cell 2
        have c2 : wr.cell? ⟨w.heap.size + 1 + 1, 3, none⟩ = some (.int .i64 0) := HF.out.cell 3
        have c3 := HF.out.frozen 3
        have hb1 := fstC_le l h320 2 (by omega)
        have hb2 := tal_le l 2
        have HP := hid (HF.out.put 3 (.int .i64 (fstC l 3 : Nat)))
        have HS := hid (show fstC l 3 = (fstC l 2 + tal l 2) * 2 from rfl)
        have hw1 : IntKind.i64.wrap (((fstC l 2 : Nat) : Int) + (tal l 2 : Nat)) = ((fstC l 2 : Nat) : Int) + (tal l 2 : Nat) := by rw [IntKind.wrap_i64]; omega
        have hw2 : IntKind.i64.wrap ((((fstC l 2 : Nat) : Int) + (tal l 2 : Nat)) * 2) = (((fstC l 2 : Nat) : Int) + (tal l 2 : Nat)) * 2 := by rw [IntKind.wrap_i64]; omega
        go_wp2
        go_region
        go_wp2
        refine ⟨⟨4, by omega, by omega, rfl, ?_, ?_, ?_, ?_⟩, by simp [intOf]⟩
        · exact (HTR.out.drew).far (by simp; omega) _
        · exact (HRR.out.drew).far (by simp) _
        · have h := HP.out.drew
          have hv : ((fstC l 3 : Nat) : Int) = (((fstC l 2 : Nat) : Int) + (tal l 2 : Nat)) * 2 := by rw [HS.out]; omega
          rw [show fArr l 4 = #[.int .i64 (fstC l 0 : Nat), .int .i64 (fstC l 1 : Nat), .int .i64 (fstC l 2 : Nat), .int .i64 (fstC l 3 : Nat), .int .i64 0, .int .i64 0, .int .i64 0, .int .i64 0, .int .i64 0, .int .i64 0, .int .i64 0, .int .i64 0, .int .i64 0, .int .i64 0, .int .i64 0, .int .i64 0] from rfl, ← hv]
          simpa using h
        · exact Below.setCell (HB.out.drewN 1) (by simp; omega) _
      · rw [show fArr l 4 = #[.int .i64 (fstC l 0 : Nat), .int .i64 (fstC l 1 : Nat), .int .i64 (fstC l 2 : Nat), .int .i64 (fstC l 3 : Nat), .int .i64 0, .int .i64 0, .int .i64 0, .int .i64 0, .int .i64 0, .int .i64 0, .int .i64 0, .int .i64 0, .int .i64 0, .int .i64 0, .int .i64 0, .int .i64 0] from rfl] at HF
        have c0 : wr.cell? ⟨w.heap.size, 3, none⟩ = some (.int .i64 (tal l 3 : Nat)) := HTR.out.cell 3
        have c1 : wr.cell? ⟨w.heap.size + 1 + 1, 3, none⟩ = some (.int .i64 (fstC l 3 : Nat)) := HF.out.cell 3
        have c2 : wr.cell? ⟨w.heap.size + 1 + 1, 4, none⟩ = some (.int .i64 0) := HF.out.cell 4
        have c3 := HF.out.frozen 4
        have hb1 := fstC_le l h320 3 (by omega)
        have hb2 := tal_le l 3
        have HP := hid (HF.out.put 4 (.int .i64 (fstC l 4 : Nat)))
        have HS := hid (show fstC l 4 = (fstC l 3 + tal l 3) * 2 from rfl)
        have hw1 : IntKind.i64.wrap (((fstC l 3 : Nat) : Int) + (tal l 3 : Nat)) = ((fstC l 3 : Nat) : Int) + (tal l 3 : Nat) := by rw [IntKind.wrap_i64]; omega
        have hw2 : IntKind.i64.wrap ((((fstC l 3 : Nat) : Int) + (tal l 3 : Nat)) * 2) = (((fstC l 3 : Nat) : Int) + (tal l 3 : Nat)) * 2 := by rw [IntKind.wrap_i64]; omega
        go_wp2
        go_region
        go_wp2
        refine ⟨⟨5, by omega, by omega, rfl, ?_, ?_, ?_, ?_⟩, by simp [intOf]⟩
        · exact (HTR.out.drew).far (by simp; omega) _
        · exact (HRR.out.drew).far (by simp) _
        · have h := HP.out.drew
          have hv : ((fstC l 4 : Nat) : Int) = (((fstC l 3 : Nat) : Int) + (tal l 3 : Nat)) * 2 := by rw [HS.out]; omega
          rw [show fArr l 5 = #[.int .i64 (fstC l 0 : Nat), .int .i64 (fstC l 1 : Nat), .int .i64 (fstC l 2 : Nat), .int .i64 (fstC l 3 : Nat), .int .i64 (fstC l 4 : Nat), .int .i64 0, .int .i64 0, .int .i64 0, .int .i64 0, .int .i64 0, .int .i64 0, .int .i64 0, .int .i64 0, .int .i64 0, .int .i64 0, .int .i64 0] from rfl, ← hv]
          simpa using h
        · exact Below.setCell (HB.out.drewN 1) (by simp; omega) _
      · rw [show fArr l 5 = #[.int .i64 (fstC l 0 : Nat), .int .i64 (fstC l 1 : Nat), .int .i64 (fstC l 2 : Nat), .int .i64 (fstC l 3 : Nat), .int .i64 (fstC l 4 : Nat), .int .i64 0, .int .i64 0, .int .i64 0, .int .i64 0, .int .i64 0, .int .i64 0, .int .i64 0, .int .i64 0, .int .i64 0, .int .i64 0, .int .i64 0] from rfl] at HF
        have c0 : wr.cell? ⟨w.heap.size, 4, none⟩ = some (.int .i64 (tal l 4 : Nat)) := HTR.out.cell 4
        have c1 : wr.cell? ⟨w.heap.size + 1 + 1, 4, none⟩ = some (.int .i64 (fstC l 4 : Nat)) := HF.out.cell 4
        have c2 : wr.cell? ⟨w.heap.size + 1 + 1, 5, none⟩ = some (.int .i64 0) := HF.out.cell 5
        have c3 := HF.out.frozen 5
        have hb1 := fstC_le l h320 4 (by omega)
        have hb2 := tal_le l 4
        have HP := hid (HF.out.put 5 (.int .i64 (fstC l 5 : Nat)))
        have HS := hid (show fstC l 5 = (fstC l 4 + tal l 4) * 2 from rfl)
        have hw1 : IntKind.i64.wrap (((fstC l 4 : Nat) : Int) + (tal l 4 : Nat)) = ((fstC l 4 : Nat) : Int) + (tal l 4 : Nat) := by rw [IntKind.wrap_i64]; omega
        have hw2 : IntKind.i64.wrap ((((fstC l 4 : Nat) : Int) + (tal l 4 : Nat)) * 2) = (((fstC l 4 : Nat) : Int) + (tal l 4 : Nat)) * 2 := by rw [IntKind.wrap_i64]; omega
        go_wp2
        go_region
        go_wp2
        refine ⟨⟨6, by omega, by omega, rfl, ?_, ?_, ?_, ?_⟩, by simp [intOf]⟩
        · exact (HTR.out.drew).far (by simp; omega) _
        · exact (HRR.out.drew).far (by simp) _
        · have h := HP.out.drew
          have hv : ((fstC l 5 : Nat) : Int) = (((fstC l 4 : Nat) : Int) + (tal l 4 : Nat)) * 2 := by rw [HS.out]; omega
          rw [show fArr l 6 = #[.int .i64 (fstC l 0 : Nat), .int .i64 (fstC l 1 : Nat), .int .i64 (fstC l 2 : Nat), .int .i64 (fstC l 3 : Nat), .int .i64 (fstC l 4 : Nat), .int .i64 (fstC l 5 : Nat), .int .i64 0, .int .i64 0, .int .i64 0, .int .i64 0, .int .i64 0, .int .i64 0, .int .i64 0, .int .i64 0, .int .i64 0, .int .i64 0] from rfl, ← hv]
          simpa using h
        · exact Below.setCell (HB.out.drewN 1) (by simp; omega) _
      · rw [show fArr l 6 = #[.int .i64 (fstC l 0 : Nat), .int .i64 (fstC l 1 : Nat), .int .i64 (fstC l 2 : Nat), .int .i64 (fstC l 3 : Nat), .int .i64 (fstC l 4 : Nat), .int .i64 (fstC l 5 : Nat), .int .i64 0, .int .i64 0, .int .i64 0, .int .i64 0, .int .i64 0, .int .i64 0, .int .i64 0, .int .i64 0, .int .i64 0, .int .i64 0] from rfl] at HF
        have c0 : wr.cell? ⟨w.heap.size, 5, none⟩ = some (.int .i64 (tal l 5 : Nat)) := HTR.out.cell 5
        have c1 : wr.cell? ⟨w.heap.size + 1 + 1, 5, none⟩ = some (.int .i64 (fstC l 5 : Nat)) := HF.out.cell 5
        have c2 : wr.cell? ⟨w.heap.size + 1 + 1, 6, none⟩ = some (.int .i64 0) := HF.out.cell 6
        have c3 := HF.out.frozen 6
        have hb1 := fstC_le l h320 5 (by omega)
        have hb2 := tal_le l 5
        have HP := hid (HF.out.put 6 (.int .i64 (fstC l 6 : Nat)))
        have HS := hid (show fstC l 6 = (fstC l 5 + tal l 5) * 2 from rfl)
        have hw1 : IntKind.i64.wrap (((fstC l 5 : Nat) : Int) + (tal l 5 : Nat)) = ((fstC l 5 : Nat) : Int) + (tal l 5 : Nat) := by rw [IntKind.wrap_i64]; omega
        have hw2 : IntKind.i64.wrap ((((fstC l 5 : Nat) : Int) + (tal l 5 : Nat)) * 2) = (((fstC l 5 : Nat) : Int) + (tal l 5 : Nat)) * 2 := by rw [IntKind.wrap_i64]; omega
        go_wp2
        go_region
        go_wp2
        refine ⟨⟨7, by omega, by omega, rfl, ?_, ?_, ?_, ?_⟩, by simp [intOf]⟩
        · exact (HTR.out.drew).far (by simp; omega) _
        · exact (HRR.out.drew).far (by simp) _
        · have h := HP.out.drew
          have hv : ((fstC l 6 : Nat) : Int) = (((fstC l 5 : Nat) : Int) + (tal l 5 : Nat)) * 2 := by rw [HS.out]; omega
          rw [show fArr l 7 = #[.int .i64 (fstC l 0 : Nat), .int .i64 (fstC l 1 : Nat), .int .i64 (fstC l 2 : Nat), .int .i64 (fstC l 3 : Nat), .int .i64 (fstC l 4 : Nat), .int .i64 (fstC l 5 : Nat), .int .i64 (fstC l 6 : Nat), .int .i64 0, .int .i64 0, .int .i64 0, .int .i64 0, .int .i64 0, .int .i64 0, .int .i64 0, .int .i64 0, .int .i64 0] from rfl, ← hv]
          simpa using h
        · exact Below.setCell (HB.out.drewN 1) (by simp; omega) _
      · rw [show fArr l 7 = #[.int .i64 (fstC l 0 : Nat), .int .i64 (fstC l 1 : Nat), .int .i64 (fstC l 2 : Nat), .int .i64 (fstC l 3 : Nat), .int .i64 (fstC l 4 : Nat), .int .i64 (fstC l 5 : Nat), .int .i64 (fstC l 6 : Nat), .int .i64 0, .int .i64 0, .int .i64 0, .int .i64 0, .int .i64 0, .int .i64 0, .int .i64 0, .int .i64 0, .int .i64 0] from rfl] at HF
        have c0 : wr.cell? ⟨w.heap.size, 6, none⟩ = some (.int .i64 (tal l 6 : Nat)) := HTR.out.cell 6
        have c1 : wr.cell? ⟨w.heap.size + 1 + 1, 6, none⟩ = some (.int .i64 (fstC l 6 : Nat)) := HF.out.cell 6
        have c2 : wr.cell? ⟨w.heap.size + 1 + 1, 7, none⟩ = some (.int .i64 0) := HF.out.cell 7
        have c3 := HF.out.frozen 7
        have hb1 := fstC_le l h320 6 (by omega)
        have hb2 := tal_le l 6
        have HP := hid (HF.out.put 7 (.int .i64 (fstC l 7 : Nat)))
        have HS := hid (show fstC l 7 = (fstC l 6 + tal l 6) * 2 from rfl)
        have hw1 : IntKind.i64.wrap (((fstC l 6 : Nat) : Int) + (tal l 6 : Nat)) = ((fstC l 6 : Nat) : Int) + (tal l 6 : Nat) := by rw [IntKind.wrap_i64]; omega
        have hw2 : IntKind.i64.wrap ((((fstC l 6 : Nat) : Int) + (tal l 6 : Nat)) * 2) = (((fstC l 6 : Nat) : Int) + (tal l 6 : Nat)) * 2 := by rw [IntKind.wrap_i64]; omega
        go_wp2
        go_region
        go_wp2
        refine ⟨⟨8, by omega, by omega, rfl, ?_, ?_, ?_, ?_⟩, by simp [intOf]⟩
        · exact (HTR.out.drew).far (by simp; omega) _
        · exact (HRR.out.drew).far (by simp) _
        · have h := HP.out.drew
          have hv : ((fstC l 7 : Nat) : Int) = (((fstC l 6 : Nat) : Int) + (tal l 6 : Nat)) * 2 := by rw [HS.out]; omega
          rw [show fArr l 8 = #[.int .i64 (fstC l 0 : Nat), .int .i64 (fstC l 1 : Nat), .int .i64 (fstC l 2 : Nat), .int .i64 (fstC l 3 : Nat), .int .i64 (fstC l 4 : Nat), .int .i64 (fstC l 5 : Nat), .int .i64 (fstC l 6 : Nat), .int .i64 (fstC l 7 : Nat), .int .i64 0, .int .i64 0, .int .i64 0, .int .i64 0, .int .i64 0, .int .i64 0, .int .i64 0, .int .i64 0] from rfl, ← hv]
          simpa using h
        · exact Below.setCell (HB.out.drewN 1) (by simp; omega) _
      · rw [show fArr l 8 = #[.int .i64 (fstC l 0 : Nat), .int .i64 (fstC l 1 : Nat), .int .i64 (fstC l 2 : Nat), .int .i64 (fstC l 3 : Nat), .int .i64 (fstC l 4 : Nat), .int .i64 (fstC l 5 : Nat), .int .i64 (fstC l 6 : Nat), .int .i64 (fstC l 7 : Nat), .int .i64 0, .int .i64 0, .int .i64 0, .int .i64 0, .int .i64 0, .int .i64 0, .int .i64 0, .int .i64 0] from rfl] at HF
        have c0 : wr.cell? ⟨w.heap.size, 7, none⟩ = some (.int .i64 (tal l 7 : Nat)) := HTR.out.cell 7
        have c1 : wr.cell? ⟨w.heap.size + 1 + 1, 7, none⟩ = some (.int .i64 (fstC l 7 : Nat)) := HF.out.cell 7
        have c2 : wr.cell? ⟨w.heap.size + 1 + 1, 8, none⟩ = some (.int .i64 0) := HF.out.cell 8
        have c3 := HF.out.frozen 8
        have hb1 := fstC_le l h320 7 (by omega)
        have hb2 := tal_le l 7
        have HP := hid (HF.out.put 8 (.int .i64 (fstC l 8 : Nat)))
        have HS := hid (show fstC l 8 = (fstC l 7 + tal l 7) * 2 from rfl)
        have hw1 : IntKind.i64.wrap (((fstC l 7 : Nat) : Int) + (tal l 7 : Nat)) = ((fstC l 7 : Nat) : Int) + (tal l 7 : Nat) := by rw [IntKind.wrap_i64]; omega
        have hw2 : IntKind.i64.wrap ((((fstC l 7 : Nat) : Int) + (tal l 7 : Nat)) * 2) = (((fstC l 7 : Nat) : Int) + (tal l 7 : Nat)) * 2 := by rw [IntKind.wrap_i64]; omega
        go_wp2
        go_region
        go_wp2
        refine ⟨⟨9, by omega, by omega, rfl, ?_, ?_, ?_, ?_⟩, by simp [intOf]⟩
        · exact (HTR.out.drew).far (by simp; omega) _
        · exact (HRR.out.drew).far (by simp) _
        · have h := HP.out.drew
          have hv : ((fstC l 8 : Nat) : Int) = (((fstC l 7 : Nat) : Int) + (tal l 7 : Nat)) * 2 := by rw [HS.out]; omega
          rw [show fArr l 9 = #[.int .i64 (fstC l 0 : Nat), .int .i64 (fstC l 1 : Nat), .int .i64 (fstC l 2 : Nat), .int .i64 (fstC l 3 : Nat), .int .i64 (fstC l 4 : Nat), .int .i64 (fstC l 5 : Nat), .int .i64 (fstC l 6 : Nat), .int .i64 (fstC l 7 : Nat), .int .i64 (fstC l 8 : Nat), .int .i64 0, .int .i64 0, .int .i64 0, .int .i64 0, .int .i64 0, .int .i64 0, .int .i64 0] from rfl, ← hv]
          simpa using h
        · exact Below.setCell (HB.out.drewN 1) (by simp; omega) _
      · rw [show fArr l 9 = #[.int .i64 (fstC l 0 : Nat), .int .i64 (fstC l 1 : Nat), .int .i64 (fstC l 2 : Nat), .int .i64 (fstC l 3 : Nat), .int .i64 (fstC l 4 : Nat), .int .i64 (fstC l 5 : Nat), .int .i64 (fstC l 6 : Nat), .int .i64 (fstC l 7 : Nat), .int .i64 (fstC l 8 : Nat), .int .i64 0, .int .i64 0, .int .i64 0, .int .i64 0, .int .i64 0, .int .i64 0, .int .i64 0] from rfl] at HF
        have c0 : wr.cell? ⟨w.heap.size, 8, none⟩ = some (.int .i64 (tal l 8 : Nat)) := HTR.out.cell 8
        have c1 : wr.cell? ⟨w.heap.size + 1 + 1, 8, none⟩ = some (.int .i64 (fstC l 8 : Nat)) := HF.out.cell 8
        have c2 : wr.cell? ⟨w.heap.size + 1 + 1, 9, none⟩ = some (.int .i64 0) := HF.out.cell 9
        have c3 := HF.out.frozen 9
        have hb1 := fstC_le l h320 8 (by omega)
        have hb2 := tal_le l 8
        have HP := hid (HF.out.put 9 (.int .i64 (fstC l 9 : Nat)))
        have HS := hid (show fstC l 9 = (fstC l 8 + tal l 8) * 2 from rfl)
        have hw1 : IntKind.i64.wrap (((fstC l 8 : Nat) : Int) + (tal l 8 : Nat)) = ((fstC l 8 : Nat) : Int) + (tal l 8 : Nat) := by rw [IntKind.wrap_i64]; omega
        have hw2 : IntKind.i64.wrap ((((fstC l 8 : Nat) : Int) + (tal l 8 : Nat)) * 2) = (((fstC l 8 : Nat) : Int) + (tal l 8 : Nat)) * 2 := by rw [IntKind.wrap_i64]; omega
        go_wp2
        go_region
        go_wp2
        refine ⟨⟨10, by omega, by omega, rfl, ?_, ?_, ?_, ?_⟩, by simp [intOf]⟩
        · exact (HTR.out.drew).far (by simp; omega) _
        · exact (HRR.out.drew).far (by simp) _
        · have h := HP.out.drew
          have hv : ((fstC l 9 : Nat) : Int) = (((fstC l 8 : Nat) : Int) + (tal l 8 : Nat)) * 2 := by rw [HS.out]; omega
          rw [show fArr l 10 = #[.int .i64 (fstC l 0 : Nat), .int .i64 (fstC l 1 : Nat), .int .i64 (fstC l 2 : Nat), .int .i64 (fstC l 3 : Nat), .int .i64 (fstC l 4 : Nat), .int .i64 (fstC l 5 : Nat), .int .i64 (fstC l 6 : Nat), .int .i64 (fstC l 7 : Nat), .int .i64 (fstC l 8 : Nat), .int .i64 (fstC l 9 : Nat), .int .i64 0, .int .i64 0, .int .i64 0, .int .i64 0, .int .i64 0, .int .i64 0] from rfl, ← hv]
          simpa using h
        · exact Below.setCell (HB.out.drewN 1) (by simp; omega) _
      · rw [show fArr l 10 = #[.int .i64 (fstC l 0 : Nat), .int .i64 (fstC l 1 : Nat), .int .i64 (fstC l 2 : Nat), .int .i64 (fstC l 3 : Nat), .int .i64 (fstC l 4 : Nat), .int .i64 (fstC l 5 : Nat), .int .i64 (fstC l 6 : Nat), .int .i64 (fstC l 7 : Nat), .int .i64 (fstC l 8 : Nat), .int .i64 (fstC l 9 : Nat), .int .i64 0, .int .i64 0, .int .i64 0, .int .i64 0, .int .i64 0, .int .i64 0] from rfl] at HF
        have c0 : wr.cell? ⟨w.heap.size, 9, none⟩ = some (.int .i64 (tal l 9 : Nat)) := HTR.out.cell 9
        have c1 : wr.cell? ⟨w.heap.size + 1 + 1, 9, none⟩ = some (.int .i64 (fstC l 9 : Nat)) := HF.out.cell 9
        have c2 : wr.cell? ⟨w.heap.size + 1 + 1, 10, none⟩ = some (.int .i64 0) := HF.out.cell 10
        have c3 := HF.out.frozen 10
        have hb1 := fstC_le l h320 9 (by omega)
        have hb2 := tal_le l 9
        have HP := hid (HF.out.put 10 (.int .i64 (fstC l 10 : Nat)))
        have HS := hid (show fstC l 10 = (fstC l 9 + tal l 9) * 2 from rfl)
        have hw1 : IntKind.i64.wrap (((fstC l 9 : Nat) : Int) + (tal l 9 : Nat)) = ((fstC l 9 : Nat) : Int) + (tal l 9 : Nat) := by rw [IntKind.wrap_i64]; omega
        have hw2 : IntKind.i64.wrap ((((fstC l 9 : Nat) : Int) + (tal l 9 : Nat)) * 2) = (((fstC l 9 : Nat) : Int) + (tal l 9 : Nat)) * 2 := by rw [IntKind.wrap_i64]; omega
        go_wp2
        go_region
        go_wp2
        refine ⟨⟨11, by omega, by omega, rfl, ?_, ?_, ?_, ?_⟩, by simp [intOf]⟩
        · exact (HTR.out.drew).far (by simp; omega) _
        · exact (HRR.out.drew).far (by simp) _
        · have h := HP.out.drew
          have hv : ((fstC l 10 : Nat) : Int) = (((fstC l 9 : Nat) : Int) + (tal l 9 : Nat)) * 2 := by rw [HS.out]; omega
          rw [show fArr l 11 = #[.int .i64 (fstC l 0 : Nat), .int .i64 (fstC l 1 : Nat), .int .i64 (fstC l 2 : Nat), .int .i64 (fstC l 3 : Nat), .int .i64 (fstC l 4 : Nat), .int .i64 (fstC l 5 : Nat), .int .i64 (fstC l 6 : Nat), .int .i64 (fstC l 7 : Nat), .int .i64 (fstC l 8 : Nat), .int .i64 (fstC l 9 : Nat), .int .i64 (fstC l 10 : Nat), .int .i64 0, .int .i64 0, .int .i64 0, .int .i64 0, .int .i64 0] from rfl, ← hv]
          simpa using h
        · exact Below.setCell (HB.out.drewN 1) (by simp; omega) _
      · rw [show fArr l 11 = #[.int .i64 (fstC l 0 : Nat), .int .i64 (fstC l 1 : Nat), .int .i64 (fstC l 2 : Nat), .int .i64 (fstC l 3 : Nat), .int .i64 (fstC l 4 : Nat), .int .i64 (fstC l 5 : Nat), .int .i64 (fstC l 6 : Nat), .int .i64 (fstC l 7 : Nat), .int .i64 (fstC l 8 : Nat), .int .i64 (fstC l 9 : Nat), .int .i64 (fstC l 10 : Nat), .int .i64 0, .int .i64 0, .int .i64 0, .int .i64 0, .int .i64 0] from rfl] at HF
        have c0 : wr.cell? ⟨w.heap.size, 10, none⟩ = some (.int .i64 (tal l 10 : Nat)) := HTR.out.cell 10
        have c1 : wr.cell? ⟨w.heap.size + 1 + 1, 10, none⟩ = some (.int .i64 (fstC l 10 : Nat)) := HF.out.cell 10
        have c2 : wr.cell? ⟨w.heap.size + 1 + 1, 11, none⟩ = some (.int .i64 0) := HF.out.cell 11
        have c3 := HF.out.frozen 11
        have hb1 := fstC_le l h320 10 (by omega)
        have hb2 := tal_le l 10
        have HP := hid (HF.out.put 11 (.int .i64 (fstC l 11 : Nat)))
        have HS := hid (show fstC l 11 = (fstC l 10 + tal l 10) * 2 from rfl)
        have hw1 : IntKind.i64.wrap (((fstC l 10 : Nat) : Int) + (tal l 10 : Nat)) = ((fstC l 10 : Nat) : Int) + (tal l 10 : Nat) := by rw [IntKind.wrap_i64]; omega
        have hw2 : IntKind.i64.wrap ((((fstC l 10 : Nat) : Int) + (tal l 10 : Nat)) * 2) = (((fstC l 10 : Nat) : Int) + (tal l 10 : Nat)) * 2 := by rw [IntKind.wrap_i64]; omega
        go_wp2
        go_region
        go_wp2
        refine ⟨⟨12, by omega, by omega, rfl, ?_, ?_, ?_, ?_⟩, by simp [intOf]⟩
        · exact (HTR.out.drew).far (by simp; omega) _
        · exact (HRR.out.drew).far (by simp) _
        · have h := HP.out.drew
          have hv : ((fstC l 11 : Nat) : Int) = (((fstC l 10 : Nat) : Int) + (tal l 10 : Nat)) * 2 := by rw [HS.out]; omega
          rw [show fArr l 12 = #[.int .i64 (fstC l 0 : Nat), .int .i64 (fstC l 1 : Nat), .int .i64 (fstC l 2 : Nat), .int .i64 (fstC l 3 : Nat), .int .i64 (fstC l 4 : Nat), .int .i64 (fstC l 5 : Nat), .int .i64 (fstC l 6 : Nat), .int .i64 (fstC l 7 : Nat), .int .i64 (fstC l 8 : Nat), .int .i64 (fstC l 9 : Nat), .int .i64 (fstC l 10 : Nat), .int .i64 (fstC l 11 : Nat), .int .i64 0, .int .i64 0, .int .i64 0, .int .i64 0] from rfl, ← hv]
          simpa using h
        · exact Below.setCell (HB.out.drewN 1) (by simp; omega) _
      · rw [show fArr l 12 = #[.int .i64 (fstC l 0 : Nat), .int .i64 (fstC l 1 : Nat), .int .i64 (fstC l 2 : Nat), .int .i64 (fstC l 3 : Nat), .int .i64 (fstC l 4 : Nat), .int .i64 (fstC l 5 : Nat), .int .i64 (fstC l 6 : Nat), .int .i64 (fstC l 7 : Nat), .int .i64 (fstC l 8 : Nat), .int .i64 (fstC l 9 : Nat), .int .i64 (fstC l 10 : Nat), .int .i64 (fstC l 11 : Nat), .int .i64 0, .int .i64 0, .int .i64 0, .int .i64 0] from rfl] at HF
        have c0 : wr.cell? ⟨w.heap.size, 11, none⟩ = some (.int .i64 (tal l 11 : Nat)) := HTR.out.cell 11
        have c1 : wr.cell? ⟨w.heap.size + 1 + 1, 11, none⟩ = some (.int .i64 (fstC l 11 : Nat)) := HF.out.cell 11
        have c2 : wr.cell? ⟨w.heap.size + 1 + 1, 12, none⟩ = some (.int .i64 0) := HF.out.cell 12
        have c3 := HF.out.frozen 12
        have hb1 := fstC_le l h320 11 (by omega)
        have hb2 := tal_le l 11
        have HP := hid (HF.out.put 12 (.int .i64 (fstC l 12 : Nat)))
        have HS := hid (show fstC l 12 = (fstC l 11 + tal l 11) * 2 from rfl)
        have hw1 : IntKind.i64.wrap (((fstC l 11 : Nat) : Int) + (tal l 11 : Nat)) = ((fstC l 11 : Nat) : Int) + (tal l 11 : Nat) := by rw [IntKind.wrap_i64]; omega
        have hw2 : IntKind.i64.wrap ((((fstC l 11 : Nat) : Int) + (tal l 11 : Nat)) * 2) = (((fstC l 11 : Nat) : Int) + (tal l 11 : Nat)) * 2 := by rw [IntKind.wrap_i64]; omega
        go_wp2
        go_region
        go_wp2
        refine ⟨⟨13, by omega, by omega, rfl, ?_, ?_, ?_, ?_⟩, by simp [intOf]⟩
        · exact (HTR.out.drew).far (by simp; omega) _
        · exact (HRR.out.drew).far (by simp) _
        · have h := HP.out.drew
          have hv : ((fstC l 12 : Nat) : Int) = (((fstC l 11 : Nat) : Int) + (tal l 11 : Nat)) * 2 := by rw [HS.out]; omega
          rw [show fArr l 13 = #[.int .i64 (fstC l 0 : Nat), .int .i64 (fstC l 1 : Nat), .int .i64 (fstC l 2 : Nat), .int .i64 (fstC l 3 : Nat), .int .i64 (fstC l 4 : Nat), .int .i64 (fstC l 5 : Nat), .int .i64 (fstC l 6 : Nat), .int .i64 (fstC l 7 : Nat), .int .i64 (fstC l 8 : Nat), .int .i64 (fstC l 9 : Nat), .int .i64 (fstC l 10 : Nat), .int .i64 (fstC l 11 : Nat), .int .i64 (fstC l 12 : Nat), .int .i64 0, .int .i64 0, .int .i64 0] from rfl, ← hv]
          simpa using h
        · exact Below.setCell (HB.out.drewN 1) (by simp; omega) _
      · rw [show fArr l 13 = #[.int .i64 (fstC l 0 : Nat), .int .i64 (fstC l 1 : Nat), .int .i64 (fstC l 2 : Nat), .int .i64 (fstC l 3 : Nat), .int .i64 (fstC l 4 : Nat), .int .i64 (fstC l 5 : Nat), .int .i64 (fstC l 6 : Nat), .int .i64 (fstC l 7 : Nat), .int .i64 (fstC l 8 : Nat), .int .i64 (fstC l 9 : Nat), .int .i64 (fstC l 10 : Nat), .int .i64 (fstC l 11 : Nat), .int .i64 (fstC l 12 : Nat), .int .i64 0, .int .i64 0, .int .i64 0] from rfl] at HF
        have c0 : wr.cell? ⟨w.heap.size, 12, none⟩ = some (.int .i64 (tal l 12 : Nat)) := HTR.out.cell 12
        have c1 : wr.cell? ⟨w.heap.size + 1 + 1, 12, none⟩ = some (.int .i64 (fstC l 12 : Nat)) := HF.out.cell 12
        have c2 : wr.cell? ⟨w.heap.size + 1 + 1, 13, none⟩ = some (.int .i64 0) := HF.out.cell 13
        have c3 := HF.out.frozen 13
        have hb1 := fstC_le l h320 12 (by omega)
        have hb2 := tal_le l 12
        have HP := hid (HF.out.put 13 (.int .i64 (fstC l 13 : Nat)))
        have HS := hid (show fstC l 13 = (fstC l 12 + tal l 12) * 2 from rfl)
        have hw1 : IntKind.i64.wrap (((fstC l 12 : Nat) : Int) + (tal l 12 : Nat)) = ((fstC l 12 : Nat) : Int) + (tal l 12 : Nat) := by rw [IntKind.wrap_i64]; omega
        have hw2 : IntKind.i64.wrap ((((fstC l 12 : Nat) : Int) + (tal l 12 : Nat)) * 2) = (((fstC l 12 : Nat) : Int) + (tal l 12 : Nat)) * 2 := by rw [IntKind.wrap_i64]; omega
        go_wp2
        go_region
        go_wp2
        refine ⟨⟨14, by omega, by omega, rfl, ?_, ?_, ?_, ?_⟩, by simp [intOf]⟩
        · exact (HTR.out.drew).far (by simp; omega) _
        · exact (HRR.out.drew).far (by simp) _
        · have h := HP.out.drew
          have hv : ((fstC l 13 : Nat) : Int) = (((fstC l 12 : Nat) : Int) + (tal l 12 : Nat)) * 2 := by rw [HS.out]; omega
          rw [show fArr l 14 = #[.int .i64 (fstC l 0 : Nat), .int .i64 (fstC l 1 : Nat), .int .i64 (fstC l 2 : Nat), .int .i64 (fstC l 3 : Nat), .int .i64 (fstC l 4 : Nat), .int .i64 (fstC l 5 : Nat), .int .i64 (fstC l 6 : Nat), .int .i64 (fstC l 7 : Nat), .int .i64 (fstC l 8 : Nat), .int .i64 (fstC l 9 : Nat), .int .i64 (fstC l 10 : Nat), .int .i64 (fstC l 11 : Nat), .int .i64 (fstC l 12 : Nat), .int .i64 (fstC l 13 : Nat), .int .i64 0, .int .i64 0] from rfl, ← hv]
          simpa using h
        · exact Below.setCell (HB.out.drewN 1) (by simp; omega) _
      · rw [show fArr l 14 = #[.int .i64 (fstC l 0 : Nat), .int .i64 (fstC l 1 : Nat), .int .i64 (fstC l 2 : Nat), .int .i64 (fstC l 3 : Nat), .int .i64 (fstC l 4 : Nat), .int .i64 (fstC l 5 : Nat), .int .i64 (fstC l 6 : Nat), .int .i64 (fstC l 7 : Nat), .int .i64 (fstC l 8 : Nat), .int .i64 (fstC l 9 : Nat), .int .i64 (fstC l 10 : Nat), .int .i64 (fstC l 11 : Nat), .int .i64 (fstC l 12 : Nat), .int .i64 (fstC l 13 : Nat), .int .i64 0, .int .i64 0] from rfl] at HF
        have c0 : wr.cell? ⟨w.heap.size, 13, none⟩ = some (.int .i64 (tal l 13 : Nat)) := HTR.out.cell 13
        have c1 : wr.cell? ⟨w.heap.size + 1 + 1, 13, none⟩ = some (.int .i64 (fstC l 13 : Nat)) := HF.out.cell 13
        have c2 : wr.cell? ⟨w.heap.size + 1 + 1, 14, none⟩ = some (.int .i64 0) := HF.out.cell 14
        have c3 := HF.out.frozen 14
        have hb1 := fstC_le l h320 13 (by omega)
        have hb2 := tal_le l 13
        have HP := hid (HF.out.put 14 (.int .i64 (fstC l 14 : Nat)))
        have HS := hid (show fstC l 14 = (fstC l 13 + tal l 13) * 2 from rfl)
        have hw1 : IntKind.i64.wrap (((fstC l 13 : Nat) : Int) + (tal l 13 : Nat)) = ((fstC l 13 : Nat) : Int) + (tal l 13 : Nat) := by rw [IntKind.wrap_i64]; omega
        have hw2 : IntKind.i64.wrap ((((fstC l 13 : Nat) : Int) + (tal l 13 : Nat)) * 2) = (((fstC l 13 : Nat) : Int) + (tal l 13 : Nat)) * 2 := by rw [IntKind.wrap_i64]; omega
        go_wp2
        go_region
        go_wp2
        refine ⟨⟨15, by omega, by omega, rfl, ?_, ?_, ?_, ?_⟩, by simp [intOf]⟩
        · exact (HTR.out.drew).far (by simp; omega) _
        · exact (HRR.out.drew).far (by simp) _
        · have h := HP.out.drew
          have hv : ((fstC l 14 : Nat) : Int) = (((fstC l 13 : Nat) : Int) + (tal l 13 : Nat)) * 2 := by rw [HS.out]; omega
          rw [show fArr l 15 = #[.int .i64 (fstC l 0 : Nat), .int .i64 (fstC l 1 : Nat), .int .i64 (fstC l 2 : Nat), .int .i64 (fstC l 3 : Nat), .int .i64 (fstC l 4 : Nat), .int .i64 (fstC l 5 : Nat), .int .i64 (fstC l 6 : Nat), .int .i64 (fstC l 7 : Nat), .int .i64 (fstC l 8 : Nat), .int .i64 (fstC l 9 : Nat), .int .i64 (fstC l 10 : Nat), .int .i64 (fstC l 11 : Nat), .int .i64 (fstC l 12 : Nat), .int .i64 (fstC l 13 : Nat), .int .i64 (fstC l 14 : Nat), .int .i64 0] from rfl, ← hv]
          simpa using h
        · exact Below.setCell (HB.out.drewN 1) (by simp; omega) _
      · rw [show fArr l 15 = #[.int .i64 (fstC l 0 : Nat), .int .i64 (fstC l 1 : Nat), .int .i64 (fstC l 2 : Nat), .int .i64 (fstC l 3 : Nat), .int .i64 (fstC l 4 : Nat), .int .i64 (fstC l 5 : Nat), .int .i64 (fstC l 6 : Nat), .int .i64 (fstC l 7 : Nat), .int .i64 (fstC l 8 : Nat), .int .i64 (fstC l 9 : Nat), .int .i64 (fstC l 10 : Nat), .int .i64 (fstC l 11 : Nat), .int .i64 (fstC l 12 : Nat), .int .i64 (fstC l 13 : Nat), .int .i64 (fstC l 14 : Nat), .int .i64 0] from rfl] at HF
        have c0 : wr.cell? ⟨w.heap.size, 14, none⟩ = some (.int .i64 (tal l 14 : Nat)) := HTR.out.cell 14
        have c1 : wr.cell? ⟨w.heap.size + 1 + 1, 14, none⟩ = some (.int .i64 (fstC l 14 : Nat)) := HF.out.cell 14
        have c2 : wr.cell? ⟨w.heap.size + 1 + 1, 15, none⟩ = some (.int .i64 0) := HF.out.cell 15
        have c3 := HF.out.frozen 15
        have hb1 := fstC_le l h320 14 (by omega)
        have hb2 := tal_le l 14
        have HP := hid (HF.out.put 15 (.int .i64 (fstC l 15 : Nat)))
        have HS := hid (show fstC l 15 = (fstC l 14 + tal l 14) * 2 from rfl)
        have hw1 : IntKind.i64.wrap (((fstC l 14 : Nat) : Int) + (tal l 14 : Nat)) = ((fstC l 14 : Nat) : Int) + (tal l 14 : Nat) := by rw [IntKind.wrap_i64]; omega
        have hw2 : IntKind.i64.wrap ((((fstC l 14 : Nat) : Int) + (tal l 14 : Nat)) * 2) = (((fstC l 14 : Nat) : Int) + (tal l 14 : Nat)) * 2 := by rw [IntKind.wrap_i64]; omega
        go_wp2
        go_region
        go_wp2
        refine ⟨⟨16, by omega, by omega, rfl, ?_, ?_, ?_, ?_⟩, by simp [intOf]⟩
        · exact (HTR.out.drew).far (by simp; omega) _
        · exact (HRR.out.drew).far (by simp) _
        · have h := HP.out.drew
          have hv : ((fstC l 15 : Nat) : Int) = (((fstC l 14 : Nat) : Int) + (tal l 14 : Nat)) * 2 := by rw [HS.out]; omega
          rw [show fArr l 16 = #[.int .i64 (fstC l 0 : Nat), .int .i64 (fstC l 1 : Nat), .int .i64 (fstC l 2 : Nat), .int .i64 (fstC l 3 : Nat), .int .i64 (fstC l 4 : Nat), .int .i64 (fstC l 5 : Nat), .int .i64 (fstC l 6 : Nat), .int .i64 (fstC l 7 : Nat), .int .i64 (fstC l 8 : Nat), .int .i64 (fstC l 9 : Nat), .int .i64 (fstC l 10 : Nat), .int .i64 (fstC l 11 : Nat), .int .i64 (fstC l 12 : Nat), .int .i64 (fstC l 13 : Nat), .int .i64 (fstC l 14 : Nat), .int .i64 (fstC l 15 : Nat)] from rfl, ← hv]
          simpa using h
        · exact Below.setCell (HB.out.drewN 1) (by simp; omega) _
    · obtain rfl : k = 16 := by omega
      rw [show fArr l 16 = #[.int .i64 (fstC l 0 : Nat), .int .i64 (fstC l 1 : Nat), .int .i64 (fstC l 2 : Nat), .int .i64 (fstC l 3 : Nat), .int .i64 (fstC l 4 : Nat), .int .i64 (fstC l 5 : Nat), .int .i64 (fstC l 6 : Nat), .int .i64 (fstC l 7 : Nat), .int .i64 (fstC l 8 : Nat), .int .i64 (fstC l 9 : Nat), .int .i64 (fstC l 10 : Nat), .int .i64 (fstC l 11 : Nat), .int .i64 (fstC l 12 : Nat), .int .i64 (fstC l 13 : Nat), .int .i64 (fstC l 14 : Nat), .int .i64 (fstC l 15 : Nat)] from rfl] at HF
      have HPX := hid (has_all HRR.out [.int .i64 (fstC l 0 : Nat), .int .i64 (fstC l 1 : Nat), .int .i64 (fstC l 2 : Nat), .int .i64 (fstC l 3 : Nat), .int .i64 (fstC l 4 : Nat), .int .i64 (fstC l 5 : Nat), .int .i64 (fstC l 6 : Nat), .int .i64 (fstC l 7 : Nat), .int .i64 (fstC l 8 : Nat), .int .i64 (fstC l 9 : Nat), .int .i64 (fstC l 10 : Nat), .int .i64 (fstC l 11 : Nat), .int .i64 (fstC l 12 : Nat), .int .i64 (fstC l 13 : Nat), .int .i64 (fstC l 14 : Nat), .int .i64 (fstC l 15 : Nat)] rfl)
      have HPB := hid (bw_setCells (Nat.le_succ w.heap.size) [.int .i64 (fstC l 0 : Nat), .int .i64 (fstC l 1 : Nat), .int .i64 (fstC l 2 : Nat), .int .i64 (fstC l 3 : Nat), .int .i64 (fstC l 4 : Nat), .int .i64 (fstC l 5 : Nat), .int .i64 (fstC l 6 : Nat), .int .i64 (fstC l 7 : Nat), .int .i64 (fstC l 8 : Nat), .int .i64 (fstC l 9 : Nat), .int .i64 (fstC l 10 : Nat), .int .i64 (fstC l 11 : Nat), .int .i64 (fstC l 12 : Nat), .int .i64 (fstC l 13 : Nat), .int .i64 (fstC l 14 : Nat), .int .i64 (fstC l 15 : Nat)] 0 wr HB.out)
      simp only [World.setCells, Nat.zero_add, Nat.reduceAdd] at HPX HPB
      have c0 : wr.cell? ⟨w.heap.size + 1 + 1, 0, none⟩ = some (.int .i64 (fstC l 0 : Nat)) := HF.out.cell 0
      have c1 : wr.cell? ⟨w.heap.size + 1 + 1, 1, none⟩ = some (.int .i64 (fstC l 1 : Nat)) := HF.out.cell 1
      have c2 : wr.cell? ⟨w.heap.size + 1 + 1, 2, none⟩ = some (.int .i64 (fstC l 2 : Nat)) := HF.out.cell 2
      have c3 : wr.cell? ⟨w.heap.size + 1 + 1, 3, none⟩ = some (.int .i64 (fstC l 3 : Nat)) := HF.out.cell 3
      have c4 : wr.cell? ⟨w.heap.size + 1 + 1, 4, none⟩ = some (.int .i64 (fstC l 4 : Nat)) := HF.out.cell 4
      have c5 : wr.cell? ⟨w.heap.size + 1 + 1, 5, none⟩ = some (.int .i64 (fstC l 5 : Nat)) := HF.out.cell 5
      have c6 : wr.cell? ⟨w.heap.size + 1 + 1, 6, none⟩ = some (.int .i64 (fstC l 6 : Nat)) := HF.out.cell 6
      have c7 : wr.cell? ⟨w.heap.size + 1 + 1, 7, none⟩ = some (.int .i64 (fstC l 7 : Nat)) := HF.out.cell 7
      have c8 : wr.cell? ⟨w.heap.size + 1 + 1, 8, none⟩ = some (.int .i64 (fstC l 8 : Nat)) := HF.out.cell 8
      have c9 : wr.cell? ⟨w.heap.size + 1 + 1, 9, none⟩ = some (.int .i64 (fstC l 9 : Nat)) := HF.out.cell 9
      have c10 : wr.cell? ⟨w.heap.size + 1 + 1, 10, none⟩ = some (.int .i64 (fstC l 10 : Nat)) := HF.out.cell 10
      have c11 : wr.cell? ⟨w.heap.size + 1 + 1, 11, none⟩ = some (.int .i64 (fstC l 11 : Nat)) := HF.out.cell 11
      have c12 : wr.cell? ⟨w.heap.size + 1 + 1, 12, none⟩ = some (.int .i64 (fstC l 12 : Nat)) := HF.out.cell 12
      have c13 : wr.cell? ⟨w.heap.size + 1 + 1, 13, none⟩ = some (.int .i64 (fstC l 13 : Nat)) := HF.out.cell 13
      have c14 : wr.cell? ⟨w.heap.size + 1 + 1, 14, none⟩ = some (.int .i64 (fstC l 14 : Nat)) := HF.out.cell 14
      have c15 : wr.cell? ⟨w.heap.size + 1 + 1, 15, none⟩ = some (.int .i64 (fstC l 15 : Nat)) := HF.out.cell 15
      have r0 : wr.cell? ⟨w.heap.size + 1, 0, none⟩ = some (.int .i64 0) := HRR.out.cell 0
      have rf0 := HRR.out.frozen 0
      have r1 : wr.cell? ⟨w.heap.size + 1, 1, none⟩ = some (.int .i64 0) := HRR.out.cell 1
      have rf1 := HRR.out.frozen 1
      have r2 : wr.cell? ⟨w.heap.size + 1, 2, none⟩ = some (.int .i64 0) := HRR.out.cell 2
      have rf2 := HRR.out.frozen 2
      have r3 : wr.cell? ⟨w.heap.size + 1, 3, none⟩ = some (.int .i64 0) := HRR.out.cell 3
      have rf3 := HRR.out.frozen 3
      have r4 : wr.cell? ⟨w.heap.size + 1, 4, none⟩ = some (.int .i64 0) := HRR.out.cell 4
      have rf4 := HRR.out.frozen 4
      have r5 : wr.cell? ⟨w.heap.size + 1, 5, none⟩ = some (.int .i64 0) := HRR.out.cell 5
      have rf5 := HRR.out.frozen 5
      have r6 : wr.cell? ⟨w.heap.size + 1, 6, none⟩ = some (.int .i64 0) := HRR.out.cell 6
      have rf6 := HRR.out.frozen 6
      have r7 : wr.cell? ⟨w.heap.size + 1, 7, none⟩ = some (.int .i64 0) := HRR.out.cell 7
      have rf7 := HRR.out.frozen 7
      have r8 : wr.cell? ⟨w.heap.size + 1, 8, none⟩ = some (.int .i64 0) := HRR.out.cell 8
      have rf8 := HRR.out.frozen 8
      have r9 : wr.cell? ⟨w.heap.size + 1, 9, none⟩ = some (.int .i64 0) := HRR.out.cell 9
      have rf9 := HRR.out.frozen 9
      have r10 : wr.cell? ⟨w.heap.size + 1, 10, none⟩ = some (.int .i64 0) := HRR.out.cell 10
      have rf10 := HRR.out.frozen 10
      have r11 : wr.cell? ⟨w.heap.size + 1, 11, none⟩ = some (.int .i64 0) := HRR.out.cell 11
      have rf11 := HRR.out.frozen 11
      have r12 : wr.cell? ⟨w.heap.size + 1, 12, none⟩ = some (.int .i64 0) := HRR.out.cell 12
      have rf12 := HRR.out.frozen 12
      have r13 : wr.cell? ⟨w.heap.size + 1, 13, none⟩ = some (.int .i64 0) := HRR.out.cell 13
      have rf13 := HRR.out.frozen 13
      have r14 : wr.cell? ⟨w.heap.size + 1, 14, none⟩ = some (.int .i64 0) := HRR.out.cell 14
      have rf14 := HRR.out.frozen 14
      have r15 : wr.cell? ⟨w.heap.size + 1, 15, none⟩ = some (.int .i64 0) := HRR.out.cell 15
      have rf15 := HRR.out.frozen 15
      go_wp2
      generalize World.setCell (World.setCell (World.setCell (World.setCell (World.setCell (World.setCell (World.setCell (World.setCell (World.setCell (World.setCell (World.setCell (World.setCell (World.setCell (World.setCell (World.setCell (World.setCell wr _ _) _ _) _ _) _ _) _ _) _ _) _ _) _ _) _ _) _ _) _ _) _ _) _ _) _ _) _ _) _ _ = W3 at *
      have p0 : W3.cell? ⟨w.heap.size + 1, 0, none⟩ = some (.int .i64 (fstC l 0 : Nat)) := HPX.out.cell 0
      have p1 : W3.cell? ⟨w.heap.size + 1, 1, none⟩ = some (.int .i64 (fstC l 1 : Nat)) := HPX.out.cell 1
      have p2 : W3.cell? ⟨w.heap.size + 1, 2, none⟩ = some (.int .i64 (fstC l 2 : Nat)) := HPX.out.cell 2
      have p3 : W3.cell? ⟨w.heap.size + 1, 3, none⟩ = some (.int .i64 (fstC l 3 : Nat)) := HPX.out.cell 3
      have p4 : W3.cell? ⟨w.heap.size + 1, 4, none⟩ = some (.int .i64 (fstC l 4 : Nat)) := HPX.out.cell 4
      have p5 : W3.cell? ⟨w.heap.size + 1, 5, none⟩ = some (.int .i64 (fstC l 5 : Nat)) := HPX.out.cell 5
      have p6 : W3.cell? ⟨w.heap.size + 1, 6, none⟩ = some (.int .i64 (fstC l 6 : Nat)) := HPX.out.cell 6
      have p7 : W3.cell? ⟨w.heap.size + 1, 7, none⟩ = some (.int .i64 (fstC l 7 : Nat)) := HPX.out.cell 7
      have p8 : W3.cell? ⟨w.heap.size + 1, 8, none⟩ = some (.int .i64 (fstC l 8 : Nat)) := HPX.out.cell 8
      have p9 : W3.cell? ⟨w.heap.size + 1, 9, none⟩ = some (.int .i64 (fstC l 9 : Nat)) := HPX.out.cell 9
      have p10 : W3.cell? ⟨w.heap.size + 1, 10, none⟩ = some (.int .i64 (fstC l 10 : Nat)) := HPX.out.cell 10
      have p11 : W3.cell? ⟨w.heap.size + 1, 11, none⟩ = some (.int .i64 (fstC l 11 : Nat)) := HPX.out.cell 11
      have p12 : W3.cell? ⟨w.heap.size + 1, 12, none⟩ = some (.int .i64 (fstC l 12 : Nat)) := HPX.out.cell 12
      have p13 : W3.cell? ⟨w.heap.size + 1, 13, none⟩ = some (.int .i64 (fstC l 13 : Nat)) := HPX.out.cell 13
      have p14 : W3.cell? ⟨w.heap.size + 1, 14, none⟩ = some (.int .i64 (fstC l 14 : Nat)) := HPX.out.cell 14
      have p15 : W3.cell? ⟨w.heap.size + 1, 15, none⟩ = some (.int .i64 (fstC l 15 : Nat)) := HPX.out.cell 15
      clear HPX
      try simp only [Exit.inBlock, Exit.then]
      refine bodyPost_ret (by simp [results, Tryz.results117, go_sem, p0, p1, p2, p3, p4, p5, p6, p7, p8, p9, p10, p11, p12, p13, p14, p15]; try rfl) rfl ?_
      exact ⟨rfl, HPB.out⟩
end Go.Proofs.YtkmbgkcpohchhaaGreatDoor
