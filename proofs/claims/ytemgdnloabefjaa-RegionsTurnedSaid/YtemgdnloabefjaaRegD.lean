/- Clash and Find (contracts of the functions). -/
import Derived.Test.YtemgdnloabefjaaRegC
namespace Go.Proofs.Ytemgdnloabefjaa
open Go.RowKit Go.Conc
set_option linter.unusedVariables false
/-- What Clash tells. -/
def clashB (L : List PartR) (lo hi : Int) : Bool := spB lo hi && (if h : fstI L lo < L.length then decide (((L[fstI L lo]).lo : Int) < hi) else false)
def findV (L : List PartR) (a : Int) : Int := if h : fstI L a < L.length then (if ((L[fstI L a]).lo : Int) ≤ a then (L[fstI L a]).x else 0) else 0
def findB (L : List PartR) (a : Int) : Bool := if h : fstI L a < L.length then decide (((L[fstI L a]).lo : Int) ≤ a) else false
set_option maxRecDepth 100000 in
set_option maxHeartbeats 4000000 in
theorem clash_any (g : Nat) (L : List PartR) (hR : Rising L) (h9 : L.length ≤ 1000000000) (lo hi : Int) (w : World) (hs : SetAt w g L) :
    Calls Try.prog 15 #[.pointer (some ⟨g, 0, none⟩), .int .i64 lo, .int .i64 hi] w fun e w' => e = .returned (.bool (clashB L lo hi)) ∧ Bw w w' := by
  have HF := hid (fun W (hb : Bw w W) => first_any g L hR h9 lo W (hs.bw hb))
  have HS := hid (fun W => isSpan_any lo hi W)
  by_cases hsp : spB lo hi = true
  · by_cases hf : fstI L lo < L.length
    · have e1 : firstV L lo = partV L[fstI L lo] := dif_pos hf
      have e2 : firstB L lo = true := decide_eq_true hf
      have e3 : clashB L lo hi = decide (((L[fstI L lo]).lo : Int) < hi) := by unfold clashB; rw [dif_pos hf, hsp]; rfl
      rw [e3]
      rw [e1, e2] at HF
      rw [hsp] at HS
      unfold partV at HF
      clear e1 e2 e3 hsp hs
      generalize L[fstI L lo] = q at *
      clear hf
      go_enter Try.func15, Try.ntmps15
      go_wp2_with fail
      refine (HS.out w).mono ?_
      rintro e w1 ⟨rfl, rfl⟩
      go_wp2_with fail
      refine (HF.out w (Bw.refl w)).mono ?_
      rintro e w2 ⟨rfl, hb⟩
      have HB := hid hb
      clear hb
      go_wp2
      go_returns
      exact ⟨rfl, HB.out.alloc _⟩
    · have e1 : firstV L lo = noneV := dif_neg hf
      have e2 : firstB L lo = false := decide_eq_false hf
      have e3 : clashB L lo hi = false := by unfold clashB; rw [dif_neg hf, hsp]; rfl
      rw [e3]
      rw [e1, e2] at HF
      rw [hsp] at HS
      unfold noneV at HF
      clear e1 e2 e3 hsp hs hf
      go_enter Try.func15, Try.ntmps15
      go_wp2_with fail
      refine (HS.out w).mono ?_
      rintro e w1 ⟨rfl, rfl⟩
      go_wp2_with fail
      refine (HF.out w (Bw.refl w)).mono ?_
      rintro e w2 ⟨rfl, hb⟩
      have HB := hid hb
      clear hb
      go_wp2
      go_returns
      exact ⟨rfl, HB.out.alloc _⟩
  · have e3 : clashB L lo hi = false := by unfold clashB; rw [eq_false_of_ne_true hsp]; rfl
    rw [e3]
    rw [eq_false_of_ne_true hsp] at HS
    clear e3 hsp hs HF
    go_enter Try.func15, Try.ntmps15
    go_wp2_with fail
    refine (HS.out w).mono ?_
    rintro e w1 ⟨rfl, rfl⟩
    go_wp2
    go_returns
    exact ⟨rfl, Bw.refl _⟩
set_option maxRecDepth 100000 in
set_option maxHeartbeats 4000000 in
theorem find_any (g : Nat) (L : List PartR) (hR : Rising L) (h9 : L.length ≤ 1000000000) (a : Int) (w : World) (hs : SetAt w g L) :
    Calls Try.prog 26 #[.pointer (some ⟨g, 0, none⟩), .int .i64 a] w fun e w' => e = .returned (.tuple #[.int .i64 (findV L a), .bool (findB L a)]) ∧ Bw w w' := by
  have HF := hid (fun W (hb : Bw w W) => first_any g L hR h9 a W (hs.bw hb))
  by_cases hf : fstI L a < L.length
  · have e1 : firstV L a = partV L[fstI L a] := dif_pos hf
    have e2 : firstB L a = true := decide_eq_true hf
    by_cases hq : ((L[fstI L a]).lo : Int) ≤ a
    · have e3 : findV L a = (L[fstI L a]).x := by unfold findV; rw [dif_pos hf, if_pos hq]
      have e4 : findB L a = true := by unfold findB; rw [dif_pos hf]; exact decide_eq_true hq
      rw [e3, e4]
      rw [e1, e2] at HF
      unfold partV at HF
      clear e1 e2 e3 e4 hs
      generalize L[fstI L a] = q at *
      clear hf
      go_enter Try.func26, Try.ntmps26
      go_wp2_with fail
      refine (HF.out _ (by first | exact Bw.refl w | exact (Bw.refl w).alloc _)).mono ?_
      rintro e w2 ⟨rfl, hb⟩
      have HB := hid hb
      clear hb
      go_wp2
      go_returns
      exact ⟨rfl, HB.out.alloc _⟩
    · have e3 : findV L a = 0 := by unfold findV; rw [dif_pos hf, if_neg hq]
      have e4 : findB L a = false := by unfold findB; rw [dif_pos hf]; exact decide_eq_false hq
      rw [e3, e4]
      rw [e1, e2] at HF
      unfold partV at HF
      clear e1 e2 e3 e4 hs
      generalize L[fstI L a] = q at *
      clear hf
      go_enter Try.func26, Try.ntmps26
      go_wp2_with fail
      refine (HF.out _ (by first | exact Bw.refl w | exact (Bw.refl w).alloc _)).mono ?_
      rintro e w2 ⟨rfl, hb⟩
      have HB := hid hb
      clear hb
      go_wp2
      go_returns
      exact ⟨rfl, HB.out.alloc _⟩
  · have e1 : firstV L a = noneV := dif_neg hf
    have e2 : firstB L a = false := decide_eq_false hf
    have e3 : findV L a = 0 := by unfold findV; rw [dif_neg hf]
    have e4 : findB L a = false := by unfold findB; rw [dif_neg hf]
    rw [e3, e4]
    rw [e1, e2] at HF
    unfold noneV at HF
    clear e1 e2 e3 e4 hs hf
    go_enter Try.func26, Try.ntmps26
    go_wp2_with fail
    refine (HF.out _ (by first | exact Bw.refl w | exact (Bw.refl w).alloc _)).mono ?_
    rintro e w2 ⟨rfl, hb⟩
    have HB := hid hb
    clear hb
    go_wp2
    go_returns
    exact ⟨rfl, HB.out.alloc _⟩
end Go.Proofs.Ytemgdnloabefjaa
