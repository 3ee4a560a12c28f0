/- What bits's live answers in any world. -/
import Derived.Test.YtfmilakgpocnnaaBitWC
namespace Go.Proofs.Ytfmilakgpocnnaa
open Go.RowKit
set_option linter.unusedVariables false

theorem s5_1 : bitsV ⟨#[5]⟩ 0 1 = 1 ∧ bitsE ⟨#[5]⟩ 0 1 = 0 ∧ bitsK ⟨#[5]⟩ 0 1 = 1 := by decide +kernel
theorem s5_2 : bitsV ⟨#[5]⟩ 1 2 = 2 ∧ bitsE ⟨#[5]⟩ 1 2 = 0 ∧ bitsK ⟨#[5]⟩ 1 2 = 3 := by decide +kernel
theorem s5_6 : bitsV ⟨#[5]⟩ 3 6 = 0 ∧ bitsE ⟨#[5]⟩ 3 6 = 2 ∧ bitsK ⟨#[5]⟩ 3 6 = 3 := by decide +kernel
theorem p_1 : putE 1 1 = 0 ∧ putK 0 1 1 = 1 ∧ putN 0 0 1 1 = 1 := by decide +kernel
theorem p_2 : putE 2 2 = 0 ∧ putK 1 2 2 = 3 ∧ putN 1 1 2 2 = 5 := by decide +kernel
theorem p_3 : putE 2 1 = 1 ∧ putK 3 2 1 = 3 ∧ putN 5 3 2 1 = 5 := by decide +kernel
theorem str5 : strN 5 ((3 + 7) / 8) = ⟨#[5]⟩ := by decide +kernel
set_option maxRecDepth 100000 in
set_option maxHeartbeats 2000000 in
theorem live_any (w : World) :
    Calls Try.prog 22 #[] w fun e w' => e = .returned (.bool true) ∧ Bw w w' := by
  have hp1 : ∀ (F : Nat → Prop) (g : Nat) (w : World), WrF F w g 0 0 → Calls Try.prog 27 #[.pointer (some ⟨g, 0, none⟩), .int .u32 1, .int .i64 1] w fun e w' => e = .returned (.int .i64 0) ∧ WPost F g 1 1 w w' := fun F g w h => by
    have := put_any F g 0 0 (by omega) 1 (by omega) 1 w h
    unfold PutPost at this
    rw [p_1.1, p_1.2.1, p_1.2.2] at this
    exact this
  have hp2 : ∀ (F : Nat → Prop) (g : Nat) (w : World), WrF F w g 1 1 → Calls Try.prog 27 #[.pointer (some ⟨g, 0, none⟩), .int .u32 2, .int .i64 2] w fun e w' => e = .returned (.int .i64 0) ∧ WPost F g 3 5 w w' := fun F g w h => by
    have := put_any F g 1 1 (by omega) 2 (by omega) 2 w h
    unfold PutPost at this
    rw [p_2.1, p_2.2.1, p_2.2.2] at this
    exact this
  have hp3 : ∀ (F : Nat → Prop) (g : Nat) (w : World), WrF F w g 3 5 → Calls Try.prog 27 #[.pointer (some ⟨g, 0, none⟩), .int .u32 2, .int .i64 1] w fun e w' => e = .returned (.int .i64 1) ∧ WPost F g 3 5 w w' := fun F g w h => by
    have := put_any F g 3 5 (by omega) 2 (by omega) 1 w h
    unfold PutPost at this
    rw [p_3.1, p_3.2.1, p_3.2.2] at this
    exact this
  have hb1 : ∀ (g : Nat) (w : World), Rd w g ⟨#[5]⟩ 0 → Calls Try.prog 19 #[.pointer (some ⟨g, 0, none⟩), .int .i64 1] w fun e w' => e = .returned (.tuple #[.int .u32 1, .int .i64 0]) ∧ Rd w' g ⟨#[5]⟩ 1 ∧ Keeps (· = g) w w' := fun g w h => by
    have := bits_any g ⟨#[5]⟩ (by decide) 0 (by decide) 1 w h
    unfold BitsPost at this
    rw [s5_1.1, s5_1.2.1, s5_1.2.2] at this
    exact this
  have hb2 : ∀ (g : Nat) (w : World), Rd w g ⟨#[5]⟩ 1 → Calls Try.prog 19 #[.pointer (some ⟨g, 0, none⟩), .int .i64 2] w fun e w' => e = .returned (.tuple #[.int .u32 2, .int .i64 0]) ∧ Rd w' g ⟨#[5]⟩ 3 ∧ Keeps (· = g) w w' := fun g w h => by
    have := bits_any g ⟨#[5]⟩ (by decide) 1 (by decide) 2 w h
    unfold BitsPost at this
    rw [s5_2.1, s5_2.2.1, s5_2.2.2] at this
    exact this
  have hb3 : ∀ (g : Nat) (w : World), Rd w g ⟨#[5]⟩ 3 → Calls Try.prog 19 #[.pointer (some ⟨g, 0, none⟩), .int .i64 6] w fun e w' => e = .returned (.tuple #[.int .u32 0, .int .i64 2]) ∧ Rd w' g ⟨#[5]⟩ 3 ∧ Keeps (· = g) w w' := fun g w h => by
    have := bits_any g ⟨#[5]⟩ (by decide) 3 (by decide) 6 w h
    unfold BitsPost at this
    rw [s5_6.1, s5_6.2.1, s5_6.2.2] at this
    exact this
  have hst : ∀ (F : Nat → Prop) (g : Nat) (w : World), WrF F w g 3 5 → Calls Try.prog 30 #[.pointer (some ⟨g, 0, none⟩)] w fun e w' => e = .returned (.string ⟨#[5]⟩) ∧ Bw w w' := fun F g w h => by
    have := wstr_any F g 3 5 (by omega) w h
    rw [str5] at this
    exact this
  have HP1 := hid hp1
  have HP2 := hid hp2
  have HP3 := hid hp3
  have HB1 := hid hb1
  have HB2 := hid hb2
  have HB3 := hid hb3
  have HST := hid hst
  clear hp1 hp2 hp3 hb1 hb2 hb3 hst
  go_enter Try.func22, Try.ntmps22
  go_wp2_with fail
  refine (HP1.out (· = w.heap.size) w.heap.size _ (WrF.fresh (Has.new w _ _))).mono ?_
  rintro e w1 ⟨rfl, F1, hw1, hk1, hf1⟩
  have HW1 := hid hw1
  have HF1 := hid hf1
  have HK1 := hid hk1
  clear hw1 hf1 hk1
  go_wp2_with fail
  refine (HP2.out F1 w.heap.size _ HW1.out).mono ?_
  rintro e w2 ⟨rfl, F2, hw2, hk2, hf2⟩
  have HW2 := hid hw2
  have HF2 := hid hf2
  have HK2 := hid hk2
  clear hw2 hf2 hk2
  go_wp2_with fail
  refine (HP3.out F2 w.heap.size _ HW2.out).mono ?_
  rintro e w3 ⟨rfl, F3, hw3, hk3, hf3⟩
  have HW3 := hid hw3
  have HF3 := hid hf3
  have HK3 := hid hk3
  clear hw3 hf3 hk3
  go_wp2_with fail
  refine (newR_any ⟨#[5]⟩ _).mono ?_
  rintro e w4 ⟨rfl, hr4, hb4, hz4⟩
  have HR4 := hid hr4
  have HB4 := hid hb4
  clear hr4 hb4
  go_wp2_with fail
  refine (HB1.out _ _ HR4.out).mono ?_
  rintro e w5 ⟨rfl, hr5, hk5⟩
  have HR5 := hid hr5
  have HK5 := hid hk5
  clear hr5 hk5
  go_wp2_with fail
  refine (HB2.out _ _ HR5.out).mono ?_
  rintro e w6 ⟨rfl, hr6, hk6⟩
  have HR6 := hid hr6
  have HK6 := hid hk6
  clear hr6 hk6
  go_wp2_with fail
  refine (HB3.out _ _ HR6.out).mono ?_
  rintro e w7 ⟨rfl, hr7, hk7⟩
  have HR7 := hid hr7
  have HK7 := hid hk7
  clear hr7 hk7
  -- the worlds, one behind the other
  have hs1 : w.heap.size ≤ w1.heap.size := by have := HK1.out.size; simp at this; omega
  have hs2 := HK2.out.size
  have hs3 := HK3.out.size
  have hs4 := HB4.out.size
  have hA : ∀ i, F1 i → w.heap.size ≤ i := fun i h => by
    rcases HF1.out i h with h | h
    · have : i = w.heap.size := h
      omega
    · simp at h; omega
  have hB : ∀ i, F2 i → w.heap.size ≤ i := fun i h => by rcases HF2.out i h with h | h; exact hA i h; omega
  have hC : ∀ i, F3 i → w.heap.size ≤ i := fun i h => by rcases HF3.out i h with h | h; exact hB i h; omega
  have b1 : Below w.heap.size w w1 := (((Below.refl _ w).alloc (Nat.le_refl _) _).trans (HK1.out.below (by simp) (fun i h => by omega)))
  have b2 := HK2.out.below (B := w.heap.size) (by omega) hA
  have b3 := HK3.out.below (B := w.heap.size) (by omega) hB
  have b4 : Below w.heap.size w3 w4 := Below.mono HB4.out (by omega)
  have b5 := HK5.out.below (B := w.heap.size) (by omega) (fun i h => by omega)
  have b6 := HK6.out.below (B := w.heap.size) (by have := HK5.out.size; omega) (fun i h => by omega)
  have b7 := HK7.out.below (B := w.heap.size) (by have := HK5.out.size; have := HK6.out.size; omega) (fun i h => by omega)
  have bb := ((((((b1.trans b2).trans b3).trans b4).trans b5).trans b6).trans b7)
  have hw7 : WrF F3 w7 w.heap.size 3 5 := (((HW3.out.keep (Keeps.of_bw (F := fun _ => False) HB4.out) (fun _ _ h => h)).keep HK5.out (fun i h e => by have := HW3.out.choose_spec.2.2.2.2 i h; omega)).keep HK6.out (fun i h e => by have := HW3.out.choose_spec.2.2.2.2 i h; omega)).keep HK7.out (fun i h e => by have := HW3.out.choose_spec.2.2.2.2 i h; omega)
  have HW7 := hid hw7
  have HBB := hid bb
  clear hw7 bb b1 b2 b3 b4 b5 b6 b7 hA hB hC
  go_wp2_with fail
  refine (HST.out F3 _ _ HW7.out).mono ?_
  rintro e w8 ⟨rfl, hb8⟩
  have HW8 := hid (HW7.out.keep (Keeps.of_bw (F := fun _ => False) hb8) (fun _ _ h => h))
  have HR8 := hid (show Rd w8 w3.heap.size ⟨#[5]⟩ 3 from hb8.has HR7.out)
  have HB8 := hid hb8
  clear hb8
  go_wp2_with fail
  refine (wlen_any F3 _ 3 5 _ HW8.out).mono ?_
  rintro e w9 ⟨rfl, rfl⟩
  go_wp2_with fail
  refine (at_any _ ⟨#[5]⟩ 3 _ HR8.out).mono ?_
  rintro e w9 ⟨rfl, rfl⟩
  go_wp2
  go_returns
  exact ⟨rfl, HBB.out.trans (Below.mono HB8.out HBB.out.size)⟩
end Go.Proofs.Ytfmilakgpocnnaa
