/- tally.isCode (contract of the function). -/
import Derived.Test.YtacgnadhpgkcmaaDoorHufE
namespace Go.Proofs.YtacgnadhpgkcmaaDoor
open Go.RowKit
set_option linter.unusedVariables false
theorem wf_tal (l : List Int) (j : Nat) (h : l.length ≤ 320) : (Lit.int .i64 (tal l j : Nat)).wf = true := by
  have := tal_le l j
  simp [Lit.wf, IntKind.min, IntKind.max, IntKind.bits, IntKind.signed]
  omega
/-- The sum of 2^-length of those that are shorter than k, in units of the least. -/
def kraftS (l : List Int) : Nat → Nat
  | 0 => 0
  | k + 1 => kraftS l k + tal l k * 2 ^ (15 - k)
theorem kraftS_le (l : List Int) (h : l.length ≤ 320) : ∀ k, kraftS l k ≤ k * 10485760
  | 0 => by simp [kraftS]
  | k + 1 => by
    have h1 := kraftS_le l h k
    have h2 := tal_le l k
    have h3 : 2 ^ (15 - k) ≤ 2 ^ 15 := Nat.pow_le_pow_right (by decide) (by omega)
    have h4 : tal l k * 2 ^ (15 - k) ≤ 320 * 2 ^ 15 := Nat.mul_le_mul (by omega) h3
    show kraftS l k + tal l k * 2 ^ (15 - k) ≤ _
    omega
def zeroB (l : List Int) : Bool := decide (([((tal l 0 : Nat) : Int), ((tal l 1 : Nat) : Int), ((tal l 2 : Nat) : Int), ((tal l 3 : Nat) : Int), ((tal l 4 : Nat) : Int), ((tal l 5 : Nat) : Int), ((tal l 6 : Nat) : Int), ((tal l 7 : Nat) : Int), ((tal l 8 : Nat) : Int), ((tal l 9 : Nat) : Int), ((tal l 10 : Nat) : Int), ((tal l 11 : Nat) : Int), ((tal l 12 : Nat) : Int), ((tal l 13 : Nat) : Int), ((tal l 14 : Nat) : Int), ((tal l 15 : Nat) : Int)] : List Int) = [0, 0, 0, 0, 0, 0, 0, 0, 0, 0, 0, 0, 0, 0, 0, 0])
def oneB (l : List Int) : Bool := decide (([((tal l 0 : Nat) : Int), ((tal l 1 : Nat) : Int), ((tal l 2 : Nat) : Int), ((tal l 3 : Nat) : Int), ((tal l 4 : Nat) : Int), ((tal l 5 : Nat) : Int), ((tal l 6 : Nat) : Int), ((tal l 7 : Nat) : Int), ((tal l 8 : Nat) : Int), ((tal l 9 : Nat) : Int), ((tal l 10 : Nat) : Int), ((tal l 11 : Nat) : Int), ((tal l 12 : Nat) : Int), ((tal l 13 : Nat) : Int), ((tal l 14 : Nat) : Int), ((tal l 15 : Nat) : Int)] : List Int) = [0, 1, 0, 0, 0, 0, 0, 0, 0, 0, 0, 0, 0, 0, 0, 0])
def codeB (l : List Int) : Bool := zeroB l || (oneB l || decide (kraftS l 16 = 32768))
set_option maxRecDepth 100000 in
set_option maxHeartbeats 4000000 in
theorem isCode_any (l : List Int) (h320 : l.length ≤ 320) (w : World) :
    Calls Tryd.prog 60 #[.agg #[.int .i64 (tal l 0 : Nat), .int .i64 (tal l 1 : Nat), .int .i64 (tal l 2 : Nat), .int .i64 (tal l 3 : Nat), .int .i64 (tal l 4 : Nat), .int .i64 (tal l 5 : Nat), .int .i64 (tal l 6 : Nat), .int .i64 (tal l 7 : Nat), .int .i64 (tal l 8 : Nat), .int .i64 (tal l 9 : Nat), .int .i64 (tal l 10 : Nat), .int .i64 (tal l 11 : Nat), .int .i64 (tal l 12 : Nat), .int .i64 (tal l 13 : Nat), .int .i64 (tal l 14 : Nat), .int .i64 (tal l 15 : Nat)]] w fun e w' => e = .returned (.bool (codeB l)) ∧ Bw w w' := by
  have HE0 := hid (fun W => run_eqTally (tal l 0 : Nat) (tal l 1 : Nat) (tal l 2 : Nat) (tal l 3 : Nat) (tal l 4 : Nat) (tal l 5 : Nat) (tal l 6 : Nat) (tal l 7 : Nat) (tal l 8 : Nat) (tal l 9 : Nat) (tal l 10 : Nat) (tal l 11 : Nat) (tal l 12 : Nat) (tal l 13 : Nat) (tal l 14 : Nat) (tal l 15 : Nat) 0 0 0 0 0 0 0 0 0 0 0 0 0 0 0 0 ⟨wf_tal l 0 h320, wf_tal l 1 h320, wf_tal l 2 h320, wf_tal l 3 h320, wf_tal l 4 h320, wf_tal l 5 h320, wf_tal l 6 h320, wf_tal l 7 h320, wf_tal l 8 h320, wf_tal l 9 h320, wf_tal l 10 h320, wf_tal l 11 h320, wf_tal l 12 h320, wf_tal l 13 h320, wf_tal l 14 h320, wf_tal l 15 h320⟩ ⟨rfl, rfl, rfl, rfl, rfl, rfl, rfl, rfl, rfl, rfl, rfl, rfl, rfl, rfl, rfl, rfl⟩ W)
  have HE1 := hid (fun W => run_eqTally (tal l 0 : Nat) (tal l 1 : Nat) (tal l 2 : Nat) (tal l 3 : Nat) (tal l 4 : Nat) (tal l 5 : Nat) (tal l 6 : Nat) (tal l 7 : Nat) (tal l 8 : Nat) (tal l 9 : Nat) (tal l 10 : Nat) (tal l 11 : Nat) (tal l 12 : Nat) (tal l 13 : Nat) (tal l 14 : Nat) (tal l 15 : Nat) 0 1 0 0 0 0 0 0 0 0 0 0 0 0 0 0 ⟨wf_tal l 0 h320, wf_tal l 1 h320, wf_tal l 2 h320, wf_tal l 3 h320, wf_tal l 4 h320, wf_tal l 5 h320, wf_tal l 6 h320, wf_tal l 7 h320, wf_tal l 8 h320, wf_tal l 9 h320, wf_tal l 10 h320, wf_tal l 11 h320, wf_tal l 12 h320, wf_tal l 13 h320, wf_tal l 14 h320, wf_tal l 15 h320⟩ ⟨rfl, rfl, rfl, rfl, rfl, rfl, rfl, rfl, rfl, rfl, rfl, rfl, rfl, rfl, rfl, rfl⟩ W)
  have hz0 : zeroB l = decide (([((tal l 0 : Nat) : Int), ((tal l 1 : Nat) : Int), ((tal l 2 : Nat) : Int), ((tal l 3 : Nat) : Int), ((tal l 4 : Nat) : Int), ((tal l 5 : Nat) : Int), ((tal l 6 : Nat) : Int), ((tal l 7 : Nat) : Int), ((tal l 8 : Nat) : Int), ((tal l 9 : Nat) : Int), ((tal l 10 : Nat) : Int), ((tal l 11 : Nat) : Int), ((tal l 12 : Nat) : Int), ((tal l 13 : Nat) : Int), ((tal l 14 : Nat) : Int), ((tal l 15 : Nat) : Int)] : List Int) = [0, 0, 0, 0, 0, 0, 0, 0, 0, 0, 0, 0, 0, 0, 0, 0]) := rfl
  have ho1 : oneB l = decide (([((tal l 0 : Nat) : Int), ((tal l 1 : Nat) : Int), ((tal l 2 : Nat) : Int), ((tal l 3 : Nat) : Int), ((tal l 4 : Nat) : Int), ((tal l 5 : Nat) : Int), ((tal l 6 : Nat) : Int), ((tal l 7 : Nat) : Int), ((tal l 8 : Nat) : Int), ((tal l 9 : Nat) : Int), ((tal l 10 : Nat) : Int), ((tal l 11 : Nat) : Int), ((tal l 12 : Nat) : Int), ((tal l 13 : Nat) : Int), ((tal l 14 : Nat) : Int), ((tal l 15 : Nat) : Int)] : List Int) = [0, 1, 0, 0, 0, 0, 0, 0, 0, 0, 0, 0, 0, 0, 0, 0]) := rfl
  rw [← hz0] at HE0
  rw [← ho1] at HE1
  have HCB := hid (show codeB l = (zeroB l || (oneB l || decide (kraftS l 16 = 32768))) from rfl)
  clear hz0 ho1
  generalize zeroB l = zb at *
  generalize oneB l = ob at *
  have HBX := hid (Has.new w 106 #[.int .i64 (tal l 0 : Nat), .int .i64 (tal l 1 : Nat), .int .i64 (tal l 2 : Nat), .int .i64 (tal l 3 : Nat), .int .i64 (tal l 4 : Nat), .int .i64 (tal l 5 : Nat), .int .i64 (tal l 6 : Nat), .int .i64 (tal l 7 : Nat), .int .i64 (tal l 8 : Nat), .int .i64 (tal l 9 : Nat), .int .i64 (tal l 10 : Nat), .int .i64 (tal l 11 : Nat), .int .i64 (tal l 12 : Nat), .int .i64 (tal l 13 : Nat), .int .i64 (tal l 14 : Nat), .int .i64 (tal l 15 : Nat)])
  have HW1 := hid ((Bw.refl w).alloc (.cells #[.int .i64 (tal l 0 : Nat), .int .i64 (tal l 1 : Nat), .int .i64 (tal l 2 : Nat), .int .i64 (tal l 3 : Nat), .int .i64 (tal l 4 : Nat), .int .i64 (tal l 5 : Nat), .int .i64 (tal l 6 : Nat), .int .i64 (tal l 7 : Nat), .int .i64 (tal l 8 : Nat), .int .i64 (tal l 9 : Nat), .int .i64 (tal l 10 : Nat), .int .i64 (tal l 11 : Nat), .int .i64 (tal l 12 : Nat), .int .i64 (tal l 13 : Nat), .int .i64 (tal l 14 : Nat), .int .i64 (tal l 15 : Nat)] 106))
  cases zb with
  | true =>
    have HCT := hid (show codeB l = true from HCB.out)
    rw [HCT.out]
    go_enter Tryd.func60, Tryd.ntmps60
    go_wp2_with (simp only [HE0.out]; go_simp)
    go_returns
    exact ⟨rfl, HW1.out⟩
  | false =>
    cases ob with
    | true =>
      have HCT := hid (show codeB l = true from HCB.out)
      rw [HCT.out]
      go_enter Tryd.func60, Tryd.ntmps60
      go_wp2_with (first | (simp only [HE0.out]; go_simp) | (simp only [HE1.out]; go_simp))
      go_returns
      exact ⟨rfl, HW1.out⟩
    | false =>
      have HCT := hid (show codeB l = decide (kraftS l 16 = 32768) from HCB.out)
      rw [HCT.out]
      go_enter Tryd.func60, Tryd.ntmps60
      go_wp2_with (first | (simp only [HE0.out]; go_simp) | (simp only [HE1.out]; go_simp))
      generalize w.alloc (.cells #[.int .i64 (tal l 0 : Nat), .int .i64 (tal l 1 : Nat), .int .i64 (tal l 2 : Nat), .int .i64 (tal l 3 : Nat), .int .i64 (tal l 4 : Nat), .int .i64 (tal l 5 : Nat), .int .i64 (tal l 6 : Nat), .int .i64 (tal l 7 : Nat), .int .i64 (tal l 8 : Nat), .int .i64 (tal l 9 : Nat), .int .i64 (tal l 10 : Nat), .int .i64 (tal l 11 : Nat), .int .i64 (tal l 12 : Nat), .int .i64 (tal l 13 : Nat), .int .i64 (tal l 14 : Nat), .int .i64 (tal l 15 : Nat)] 106) = W1 at *
      go_loopw [3, 4] (fun v n wr => ∃ k : Nat, 1 ≤ k ∧ k ≤ 16 ∧ n = .int .i64 k ∧ v = .int .i64 (kraftS l k : Nat) ∧ wr = W1) (fun _ n _ => 16 - (intOf n).toNat)
      case atStart => exact ⟨1, by omega, by omega, rfl, by simp [kraftS, tal], rfl⟩
      case round =>
        rename World => wz
        obtain ⟨k, hk1, hk, rfl, rfl, rfl⟩ := hrel
        by_cases hlt : k < 16
        · have hti := tal_le l k
          have hks := kraftS_le l h320 k
          have hor : k = 1 ∨ k = 2 ∨ k = 3 ∨ k = 4 ∨ k = 5 ∨ k = 6 ∨ k = 7 ∨ k = 8 ∨ k = 9 ∨ k = 10 ∨ k = 11 ∨ k = 12 ∨ k = 13 ∨ k = 14 ∨ k = 15 := by omega
          rcases hor with rfl | rfl | rfl | rfl | rfl | rfl | rfl | rfl | rfl | rfl | rfl | rfl | rfl | rfl | rfl
          · have c1 : wz.cell? ⟨w.heap.size, 1, none⟩ = some (.int .i64 (tal l 1 : Nat)) := HBX.out.cell 1
            have HS := hid (show kraftS l 2 = kraftS l 1 + tal l 1 * 16384 from rfl)
            generalize tal l 1 = tk at *
            generalize kraftS l 1 = sk at *
            go_wp2
            exact ⟨⟨2, by omega, by omega, rfl, congrArg (Value.int .i64) (by have := HS.out; omega), by first | trivial | rfl⟩, by simp [intOf]⟩
          · have c2 : wz.cell? ⟨w.heap.size, 2, none⟩ = some (.int .i64 (tal l 2 : Nat)) := HBX.out.cell 2
            have HS := hid (show kraftS l 3 = kraftS l 2 + tal l 2 * 8192 from rfl)
            generalize tal l 2 = tk at *
            generalize kraftS l 2 = sk at *
            go_wp2
            exact ⟨⟨3, by omega, by omega, rfl, congrArg (Value.int .i64) (by have := HS.out; omega), by first | trivial | rfl⟩, by simp [intOf]⟩
          · have c3 : wz.cell? ⟨w.heap.size, 3, none⟩ = some (.int .i64 (tal l 3 : Nat)) := HBX.out.cell 3
            have HS := hid (show kraftS l 4 = kraftS l 3 + tal l 3 * 4096 from rfl)
            generalize tal l 3 = tk at *
            generalize kraftS l 3 = sk at *
            go_wp2
            exact ⟨⟨4, by omega, by omega, rfl, congrArg (Value.int .i64) (by have := HS.out; omega), by first | trivial | rfl⟩, by simp [intOf]⟩
          · have c4 : wz.cell? ⟨w.heap.size, 4, none⟩ = some (.int .i64 (tal l 4 : Nat)) := HBX.out.cell 4
            have HS := hid (show kraftS l 5 = kraftS l 4 + tal l 4 * 2048 from rfl)
            generalize tal l 4 = tk at *
            generalize kraftS l 4 = sk at *
            go_wp2
            exact ⟨⟨5, by omega, by omega, rfl, congrArg (Value.int .i64) (by have := HS.out; omega), by first | trivial | rfl⟩, by simp [intOf]⟩
          · have c5 : wz.cell? ⟨w.heap.size, 5, none⟩ = some (.int .i64 (tal l 5 : Nat)) := HBX.out.cell 5
            have HS := hid (show kraftS l 6 = kraftS l 5 + tal l 5 * 1024 from rfl)
            generalize tal l 5 = tk at *
            generalize kraftS l 5 = sk at *
            go_wp2
            exact ⟨⟨6, by omega, by omega, rfl, congrArg (Value.int .i64) (by have := HS.out; omega), by first | trivial | rfl⟩, by simp [intOf]⟩
          · have c6 : wz.cell? ⟨w.heap.size, 6, none⟩ = some (.int .i64 (tal l 6 : Nat)) := HBX.out.cell 6
            have HS := hid (show kraftS l 7 = kraftS l 6 + tal l 6 * 512 from rfl)
            generalize tal l 6 = tk at *
            generalize kraftS l 6 = sk at *
            go_wp2
            exact ⟨⟨7, by omega, by omega, rfl, congrArg (Value.int .i64) (by have := HS.out; omega), by first | trivial | rfl⟩, by simp [intOf]⟩
          · have c7 : wz.cell? ⟨w.heap.size, 7, none⟩ = some (.int .i64 (tal l 7 : Nat)) := HBX.out.cell 7
            have HS := hid (show kraftS l 8 = kraftS l 7 + tal l 7 * 256 from rfl)
            generalize tal l 7 = tk at *
            generalize kraftS l 7 = sk at *
            go_wp2
            exact ⟨⟨8, by omega, by omega, rfl, congrArg (Value.int .i64) (by have := HS.out; omega), by first | trivial | rfl⟩, by simp [intOf]⟩
          · have c8 : wz.cell? ⟨w.heap.size, 8, none⟩ = some (.int .i64 (tal l 8 : Nat)) := HBX.out.cell 8
            have HS := hid (show kraftS l 9 = kraftS l 8 + tal l 8 * 128 from rfl)
            generalize tal l 8 = tk at *
            generalize kraftS l 8 = sk at *
            go_wp2
            exact ⟨⟨9, by omega, by omega, rfl, congrArg (Value.int .i64) (by have := HS.out; omega), by first | trivial | rfl⟩, by simp [intOf]⟩
          · have c9 : wz.cell? ⟨w.heap.size, 9, none⟩ = some (.int .i64 (tal l 9 : Nat)) := HBX.out.cell 9
            have HS := hid (show kraftS l 10 = kraftS l 9 + tal l 9 * 64 from rfl)
            generalize tal l 9 = tk at *
            generalize kraftS l 9 = sk at *
            go_wp2
            exact ⟨⟨10, by omega, by omega, rfl, congrArg (Value.int .i64) (by have := HS.out; omega), by first | trivial | rfl⟩, by simp [intOf]⟩
          · have c10 : wz.cell? ⟨w.heap.size, 10, none⟩ = some (.int .i64 (tal l 10 : Nat)) := HBX.out.cell 10
            have HS := hid (show kraftS l 11 = kraftS l 10 + tal l 10 * 32 from rfl)
            generalize tal l 10 = tk at *
            generalize kraftS l 10 = sk at *
            go_wp2
            exact ⟨⟨11, by omega, by omega, rfl, congrArg (Value.int .i64) (by have := HS.out; omega), by first | trivial | rfl⟩, by simp [intOf]⟩
          · have c11 : wz.cell? ⟨w.heap.size, 11, none⟩ = some (.int .i64 (tal l 11 : Nat)) := HBX.out.cell 11
            have HS := hid (show kraftS l 12 = kraftS l 11 + tal l 11 * 16 from rfl)
            generalize tal l 11 = tk at *
            generalize kraftS l 11 = sk at *
            go_wp2
            exact ⟨⟨12, by omega, by omega, rfl, congrArg (Value.int .i64) (by have := HS.out; omega), by first | trivial | rfl⟩, by simp [intOf]⟩
          · have c12 : wz.cell? ⟨w.heap.size, 12, none⟩ = some (.int .i64 (tal l 12 : Nat)) := HBX.out.cell 12
            have HS := hid (show kraftS l 13 = kraftS l 12 + tal l 12 * 8 from rfl)
            generalize tal l 12 = tk at *
            generalize kraftS l 12 = sk at *
            go_wp2
            exact ⟨⟨13, by omega, by omega, rfl, congrArg (Value.int .i64) (by have := HS.out; omega), by first | trivial | rfl⟩, by simp [intOf]⟩
          · have c13 : wz.cell? ⟨w.heap.size, 13, none⟩ = some (.int .i64 (tal l 13 : Nat)) := HBX.out.cell 13
            have HS := hid (show kraftS l 14 = kraftS l 13 + tal l 13 * 4 from rfl)
            generalize tal l 13 = tk at *
            generalize kraftS l 13 = sk at *
            go_wp2
            exact ⟨⟨14, by omega, by omega, rfl, congrArg (Value.int .i64) (by have := HS.out; omega), by first | trivial | rfl⟩, by simp [intOf]⟩
          · have c14 : wz.cell? ⟨w.heap.size, 14, none⟩ = some (.int .i64 (tal l 14 : Nat)) := HBX.out.cell 14
            have HS := hid (show kraftS l 15 = kraftS l 14 + tal l 14 * 2 from rfl)
            generalize tal l 14 = tk at *
            generalize kraftS l 14 = sk at *
            go_wp2
            exact ⟨⟨15, by omega, by omega, rfl, congrArg (Value.int .i64) (by have := HS.out; omega), by first | trivial | rfl⟩, by simp [intOf]⟩
          · have c15 : wz.cell? ⟨w.heap.size, 15, none⟩ = some (.int .i64 (tal l 15 : Nat)) := HBX.out.cell 15
            have HS := hid (show kraftS l 16 = kraftS l 15 + tal l 15 * 1 from rfl)
            generalize tal l 15 = tk at *
            generalize kraftS l 15 = sk at *
            go_wp2
            exact ⟨⟨16, by omega, by omega, rfl, congrArg (Value.int .i64) (by have := HS.out; omega), by first | trivial | rfl⟩, by simp [intOf]⟩
        · obtain rfl : k = 16 := by omega
          obtain ⟨sk, hsk⟩ : ∃ sk, kraftS l 16 = sk := ⟨_, rfl⟩
          have HSK := hid hsk
          rw [hsk]
          clear hsk
          go_wp2
          go_returns
          refine ⟨ret_bool ?_, HW1.out⟩
          rw [HSK.out]
          by_cases h : sk = 32768
          · subst h; rfl
          · rw [decide_eq_false h]; first | (simp; omega) | (exact beq_eq_false_iff_ne.2 (by omega)) | (exact decide_eq_false (by omega))
end Go.Proofs.YtacgnadhpgkcmaaDoor
