/- The document's SameInts (contract of the function). -/
import Derived.Test.YtcacnidlfjglbaaHufA0
namespace Go.Proofs.Ytcacnidlfjglbaa
open Go.RowKit
set_option linter.unusedVariables false
set_option maxRecDepth 100000 in
set_option maxHeartbeats 4000000 in
theorem ints_ne (a b : Option Addr) (la ca lb cb : Nat) (hne : ¬ la = lb) (w : World) :
    Calls Try.prog 7 #[.slice a la ca, .slice b lb cb] w fun e w' => e = .returned (.bool false) ∧ Bw w w' := by
  have h1 : ¬ (la : Int) = lb := by omega
  have HW := hid (Bw.refl w)
  go_enter Try.func7, Try.ntmps7
  go_wp2
  go_returns
  exact ⟨rfl, HW.out⟩
set_option maxRecDepth 100000 in
set_option maxHeartbeats 4000000 in
theorem ints_eq (a b : Option Addr) (len ca cb : Nat) (hlen : len < 4611686018427387904) (x y : List Int) (hx : Hid (x.length = len)) (hy : Hid (y.length = len)) (w : World) (hsx : ZsAt w a x) (hsy : ZsAt w b y) :
    Calls Try.prog 7 #[.slice a len ca, .slice b len cb] w fun e w' => e = .returned (.bool (decide (x = y))) ∧ Bw w w' := by
  have HW := hid (Bw.refl w)
  have HSX := hid hsx
  have HSY := hid hsy
  clear hsx hsy
  go_enter Try.func7, Try.ntmps7
  go_wp2_with fail
  go_loopw [5] (fun i wr => ∃ k : Nat, k ≤ len ∧ i = .int .i64 k ∧ x.take k = y.take k ∧ Bw w wr) (fun i _ => len - (intOf i).toNat)
  case atStart => exact ⟨0, Nat.zero_le _, rfl, rfl, HW.out⟩
  case round =>
    obtain ⟨k, hk, rfl, ht, hbw⟩ := hrel
    have HB := hid hbw
    have HT := hid ht
    clear ht
    by_cases hlt : k < len
    · have hlti : (k : Int) < len := by omega
      have hxl : k < x.length := by rw [hx.out]; omega
      have hyl : k < y.length := by rw [hy.out]; omega
      obtain ⟨b1, o1, rfl, hb1, q1⟩ := HSX.out k hxl
      obtain ⟨b2, o2, rfl, hb2, q2⟩ := HSY.out k hyl
      have x0 : wr.cell? ⟨b1, o1 + k, none⟩ = some (.int .i64 x[k]) := (World.cell?_of_block (hbw.block b1 hb1)).trans q1
      have y0 : wr.cell? ⟨b2, o2 + k, none⟩ = some (.int .i64 y[k]) := (World.cell?_of_block (hbw.block b2 hb2)).trans q2
      have t1 : x.take (k + 1) = x.take k ++ [x[k]] := List.take_succ_eq_append_getElem hxl
      have t2 : y.take (k + 1) = y.take k ++ [y[k]] := List.take_succ_eq_append_getElem hyl
      have hne : x[k] ≠ y[k] → x ≠ y := fun h e => h (by subst e; rfl)
      have T1 := hid t1
      have T2 := hid t2
      have HNE := hid hne
      clear t1 t2 hne q1 q2 hbw
      generalize x[k] = u at *
      generalize y[k] = v at *
      by_cases huv : u = v
      · subst huv
        go_wp2
        go_region
        go_wp2
        go_roundw
        case rel => exact ⟨k + 1, by omega, by go_num, by rw [T1.out, T2.out, HT.out], HB.out.drewN 1⟩
        case measure => simp [intOf]; omega
      · have hr : decide (x = y) = false := decide_eq_false (HNE.out huv)
        have HR := hid hr
        clear hr
        go_wp2
        go_region
        go_wp2
        go_returns
        exact ⟨by rw [HR.out]; rfl, HB.out.drewN 1⟩
    · obtain rfl : k = len := by omega
      have hr : decide (x = y) = true := decide_eq_true (by
        have := HT.out
        rwa [List.take_of_length_le (by rw [hx.out]; omega), List.take_of_length_le (by rw [hy.out]; omega)] at this)
      have HR := hid hr
      clear hr
      go_wp2
      go_returns
      exact ⟨by rw [HR.out]; rfl, HB.out⟩
theorem ints_any (a b : Option Addr) (la ca lb cb : Nat) (hlen : la < 4611686018427387904) (x y : List Int) (hx : Hid (x.length = la)) (hy : Hid (y.length = lb)) (w : World) (hsx : ZsAt w a x) (hsy : ZsAt w b y) :
    Calls Try.prog 7 #[.slice a la ca, .slice b lb cb] w fun e w' => e = .returned (.bool (decide (x = y))) ∧ Bw w w' := by
  by_cases h : la = lb
  · subst h
    exact ints_eq a b la ca cb hlen x y hx hy w hsx hsy
  · rw [show decide (x = y) = false from decide_eq_false (fun e => h (by rw [← hx.out, ← hy.out, e]))]
    exact ints_ne a b la ca lb cb h w
end Go.Proofs.Ytcacnidlfjglbaa
