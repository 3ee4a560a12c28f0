/- Lists of chunks: whether they are the same, small, how many bytes they take (contracts of the functions). -/
import Derived.Test.YtgkgimfdbkpbdaaDoorWavA
import Derived.Test.YtgkgimfdbkpbdaaDoorChkK
import Derived.Deep.QuietTactic
import Derived.BigQuiet
import Derived.Deep.RegionWith
namespace Go.Proofs.YtgkgimfdbkpbdaaDoor
open Go.RowKit
set_option linter.unusedVariables false
set_option linter.unusedSimpArgs false
set_option maxRecDepth 100000 in
set_option maxHeartbeats 4000000 in
/-- The same lists are the same. -/
theorem sameC_eq (a b : Option Addr) (len c d : Nat) (hlen : len ≤ 9223372036854775807) (l : List ChkR) (hll : Hid (l.length = len)) (w : World) (ha : ChkAt w a l) (hb : ChkAt w b l) :
    Calls Tryd.prog 12 #[.slice a len c, .slice b len d] w fun e w' => e = .returned (.bool true) ∧ Bw w w' := by
  have HA := hid ha
  have HB := hid hb
  clear ha hb
  go_enter Tryd.func12, Tryd.ntmps12
  go_wp2
  go_loopw [5] (fun vi wr => ∃ k : Nat, k ≤ len ∧ vi = .int .i64 k ∧ Bw w wr) (fun vi _ => len - (intOf vi).toNat)
  case atStart => exact ⟨0, Nat.zero_le _, rfl, Bw.refl _⟩
  case round =>
    rename World => wr
    obtain ⟨k, hk, rfl, hw⟩ := hrel
    have HW := hid hw
    by_cases hlt : k < len
    · have hk1 : (k : Int) < len := by omega
      obtain ⟨b1, o1, rfl, hb1, p0, p1, _⟩ := HA.out.below hw k (by rw [hll.out]; exact hlt)
      obtain ⟨b2, o2, rfl, hb2, q0, q1, _⟩ := HB.out.below hw k (by rw [hll.out]; exact hlt)
      clear hw
      have hkl : k < l.length := by rw [hll.out]; exact hlt
      obtain ⟨x, hx⟩ : ∃ x, l[k]'hkl = x := ⟨_, rfl⟩
      rw [hx] at p0 p1 q0 q1
      clear hx
      go_wp2_with fail
      go_quiet (fail)
      go_wp2
      exact ⟨⟨k + 1, by omega, by go_num, HW.out.drewN _⟩, by simp [intOf]; omega⟩
    · obtain rfl : k = len := by omega
      go_wp2
      go_returns
      exact ⟨rfl, hw⟩
def smallB (l : List ChkR) : Bool := decide (l.length ≤ 40) && l.all fun c => decide (c.dat.size ≤ 5000)
theorem small_all {l : List ChkR} (h : smallB l = true) : l.length ≤ 40 ∧ ∀ c ∈ l, c.dat.size ≤ 5000 := by
  unfold smallB at h
  rw [Bool.and_eq_true, List.all_eq_true] at h
  exact ⟨of_decide_eq_true h.1, fun c hc => of_decide_eq_true (h.2 c hc)⟩
theorem small_of {l : List ChkR} (h : l.length ≤ 40) (k : ∀ i (hi : i < l.length), l[i].dat.size ≤ 5000) : smallB l = true := by
  unfold smallB
  rw [Bool.and_eq_true, List.all_eq_true]
  refine ⟨decide_eq_true h, fun c hc => ?_⟩
  obtain ⟨i, hi, rfl⟩ := List.getElem_of_mem hc
  exact decide_eq_true (k i hi)
theorem small_long {l : List ChkR} (h : 40 < l.length) : smallB l = false := by
  unfold smallB
  rw [decide_eq_false (by omega), Bool.false_and]
theorem small_big {l : List ChkR} {i : Nat} (hi : i < l.length) (h : 5000 < l[i].dat.size) : smallB l = false := by
  cases hs : smallB l with
  | false => rfl
  | true => have := (small_all hs).2 _ (List.getElem_mem hi); omega
set_option maxRecDepth 100000 in
set_option maxHeartbeats 4000000 in
theorem small_any (a : Option Addr) (len c : Nat) (hlen : len ≤ 9223372036854775807) (l : List ChkR) (hll : Hid (l.length = len)) (w : World) (ha : ChkAt w a l) :
    Calls Tryd.prog 13 #[.slice a len c] w fun e w' => e = .returned (.bool (smallB l)) ∧ Bw w w' := by
  have HA := hid ha
  clear ha
  by_cases h40 : 40 < len
  · have h1 : (40 : Int) < len := by omega
    have HS := hid (small_long (l := l) (by rw [hll.out]; exact h40))
    go_enter Tryd.func13, Tryd.ntmps13
    go_wp2
    go_returns
    exact ⟨by rw [HS.out]; rfl, Bw.refl _⟩
  have h1 : ¬ (40 : Int) < len := by omega
  go_enter Tryd.func13, Tryd.ntmps13
  go_wp2
  go_loopw [3] (fun vi wr => ∃ k : Nat, k ≤ len ∧ vi = .int .i64 k ∧ Hid (∀ i (hi : i < l.length), i < k → l[i].dat.size ≤ 5000) ∧ Bw w wr) (fun vi _ => len - (intOf vi).toNat)
  case atStart => exact ⟨0, Nat.zero_le _, rfl, hid (fun i hi h => absurd h (Nat.not_lt_zero i)), Bw.refl _⟩
  case round =>
    rename World => wr
    obtain ⟨k, hk, rfl, HR, hw⟩ := hrel
    have HW := hid hw
    by_cases hlt : k < len
    · have hk1 : (k : Int) < len := by omega
      obtain ⟨b1, o1, rfl, hb1, p0, p1, hok⟩ := HA.out.below hw k (by rw [hll.out]; exact hlt)
      clear hw
      have hkl : k < l.length := by rw [hll.out]; exact hlt
      have hz : (l[k]'hkl).dat.size ≤ 9223372036854775807 := hok.2
      clear hok
      by_cases hb : 5000 < (l[k]'hkl).dat.size
      · have HS := hid (small_big hkl hb)
        obtain ⟨x, hx⟩ : ∃ x, l[k]'hkl = x := ⟨_, rfl⟩
        rw [hx] at p0 p1 hb hz
        clear hx
        have h2 : (5000 : Int) < x.dat.size := by omega
        go_wp2
        go_returns
        exact ⟨by rw [HS.out]; rfl, HW.out⟩
      · have HN := hid (show ∀ i (hi : i < l.length), i < k + 1 → l[i].dat.size ≤ 5000 from fun i hi h => by
          by_cases e : i = k
          · subst e; omega
          · exact HR.out i hi (by omega))
        obtain ⟨x, hx⟩ : ∃ x, l[k]'hkl = x := ⟨_, rfl⟩
        rw [hx] at p0 p1 hb hz
        clear hx
        have h2 : ¬ (5000 : Int) < x.dat.size := by omega
        go_wp2
        exact ⟨⟨k + 1, by omega, by go_num, HN, HW.out⟩, by simp [intOf]; omega⟩
    · obtain rfl : k = len := by omega
      have HS := hid (small_of (l := l) (by rw [hll.out]; omega) (fun i hi => HR.out i hi (by rw [← hll.out]; exact hi)))
      go_wp2
      go_returns
      exact ⟨by rw [HS.out]; rfl, HW.out⟩
/-- Few chunks, none of them long. -/
def Few (l : List ChkR) : Prop := l.length ≤ 50 ∧ ∀ c ∈ l, c.dat.size ≤ 20000
theorem few_sum {l : List ChkR} (h : Few l) : sumP l ≤ 1000450 := by
  have := sumP_le h.2
  have h2 := h.1
  have h3 : l.length * (20000 + 9) ≤ 50 * (20000 + 9) := Nat.mul_le_mul_right _ h2
  omega
theorem few_take {l : List ChkR} (h : Few l) (k : Nat) : sumP (l.take k) ≤ 1000450 :=
  few_sum ⟨by rw [List.length_take]; have := h.1; omega, fun c hc => h.2 c (List.mem_of_mem_take hc)⟩
set_option maxRecDepth 100000 in
set_option maxHeartbeats 4000000 in
theorem sizeOf_any (a : Option Addr) (len c : Nat) (hlen : len ≤ 9223372036854775807) (l : List ChkR) (hll : Hid (l.length = len)) (hf : Few l) (w : World) (ha : ChkAt w a l) :
    Calls Tryd.prog 26 #[.slice a len c] w fun e w' => e = .returned (.tuple #[.int .i64 (12 + sumP l : Nat), .bool true]) ∧ Bw w w' := by
  have HA := hid ha
  have HF := hid hf
  clear ha hf
  have hl50 : len ≤ 50 := by rw [← hll.out]; exact HF.out.1
  go_enter Tryd.func26, Tryd.ntmps26
  go_wp2
  go_loopw [4, 9] (fun vn vi wr => ∃ (k n : Nat), k ≤ len ∧ vi = .int .i64 k ∧ vn = .int .i64 n ∧ Hid (n = 12 + sumP (l.take k)) ∧ Bw w wr) (fun _ vi _ => len - (intOf vi).toNat)
  case atStart => exact ⟨0, 12, Nat.zero_le _, rfl, rfl, hid rfl, Bw.refl _⟩
  case round =>
    rename World => wr
    obtain ⟨k, n, hk, rfl, rfl, HN, hw⟩ := hrel
    have HW := hid hw
    by_cases hlt : k < len
    · have hk1 : (k : Int) < len := by omega
      obtain ⟨b1, o1, rfl, hb1, p0, p1, hok⟩ := HA.out.below hw k (by rw [hll.out]; exact hlt)
      clear hw hok
      have hkl : k < l.length := by rw [hll.out]; exact hlt
      have hz : (l[k]'hkl).dat.size ≤ 20000 := HF.out.2 _ (List.getElem_mem hkl)
      have HT := hid (sumP_take hkl)
      have HTS := hid (few_take HF.out (k + 1))
      have hn9 : n + (8 + pad (l[k]'hkl).dat.size) ≤ 1001000 := by have h1 := HT.out; have h2 := HTS.out; have h3 := HN.out; omega
      have hN2 := hid (show n + (8 + pad (l[k]'hkl).dat.size) = 12 + sumP (l.take (k + 1)) by have h1 := HT.out; have h3 := HN.out; omega)
      obtain ⟨x, hx⟩ : ∃ x, l[k]'hkl = x := ⟨_, rfl⟩
      rw [hx] at p0 p1 hz hn9 hN2
      clear hx HT HTS
      have h2 : ¬ (2147483647 : Int) < x.dat.size := by omega
      have HP := hid (fun W => padded_any x.dat.size (by omega) W)
      obtain ⟨q, hq⟩ : ∃ q, pad x.dat.size = q := ⟨_, rfl⟩
      rw [hq] at HP hn9 hN2
      clear hq
      have h3 : ¬ (2147483647 : Int) < (n : Int) + (8 + (q : Int)) := by omega
      have HA2 := hid (HW.out.alloc (.cells #[.string x.typ, .string x.dat] 42))
      go_wp2_with fail
      refine (HP.out _).mono ?_
      rintro e w2 ⟨rfl, rfl⟩
      go_wp2
      exact ⟨⟨k + 1, n + (8 + q), by omega, by go_num, by go_num, hN2, HA2.out⟩, by simp [intOf]; omega⟩
    · obtain rfl : k = len := by omega
      have HL := hid (show l.take k = l from by rw [← hll.out]; exact List.take_length)
      rw [HL.out] at HN
      go_wp2
      go_returns
      exact ⟨by rw [HN.out]; rfl, HW.out⟩
set_option maxRecDepth 100000 in
set_option maxHeartbeats 4000000 in
theorem rSize_any (a : Option Addr) (len c : Nat) (hlen : len ≤ 9223372036854775807) (l : List ChkR) (hll : Hid (l.length = len)) (hf : Few l) (w : World) (ha : ChkAt w a l) :
    Calls Tryd.prog 33 #[.slice a len c] w fun e w' => e = .returned (.int .i64 (12 + sumP l : Nat)) ∧ Bw w w' := by
  have HA := hid ha
  have HF := hid hf
  clear ha hf
  have hl50 : len ≤ 50 := by rw [← hll.out]; exact HF.out.1
  go_enter Tryd.func33, Tryd.ntmps33
  go_wp2
  go_loopw [3, 4] (fun vn vi wr => ∃ (k n : Nat), k ≤ len ∧ vi = .int .i64 k ∧ vn = .int .i64 n ∧ Hid (n = 12 + sumP (l.take k)) ∧ n ≤ 1001000 ∧ Bw w wr) (fun _ vi _ => len - (intOf vi).toNat)
  case atStart => exact ⟨0, 12, Nat.zero_le _, rfl, rfl, hid rfl, by decide, Bw.refl _⟩
  case round =>
    rename World => wr
    obtain ⟨k, n, hk, rfl, rfl, HN, hn8, hw⟩ := hrel
    have HW := hid hw
    by_cases hlt : k < len
    · have hk1 : (k : Int) < len := by omega
      obtain ⟨b1, o1, rfl, hb1, p0, p1, hok⟩ := HA.out.below hw k (by rw [hll.out]; exact hlt)
      clear hw hok
      have hkl : k < l.length := by rw [hll.out]; exact hlt
      have hz : (l[k]'hkl).dat.size ≤ 20000 := HF.out.2 _ (List.getElem_mem hkl)
      have HT := hid (sumP_take hkl)
      have HTS := hid (few_take HF.out (k + 1))
      have hn9 : n + 8 + (l[k]'hkl).dat.size + (l[k]'hkl).dat.size % 2 ≤ 1001000 := by have h1 := HT.out; have h2 := HTS.out; have h3 := HN.out; unfold pad at h1; omega
      have hN2 := hid (show n + 8 + (l[k]'hkl).dat.size + (l[k]'hkl).dat.size % 2 = 12 + sumP (l.take (k + 1)) by have h1 := HT.out; have h3 := HN.out; unfold pad at h1; omega)
      obtain ⟨x, hx⟩ : ∃ x, l[k]'hkl = x := ⟨_, rfl⟩
      rw [hx] at p0 p1 hz hn9 hN2
      clear hx HT HTS
      have h2 : ¬ (2147483647 : Int) - (n : Int) < x.dat.size := by omega
      have h3 : ¬ (2147483647 : Int) < (n : Int) + 8 + x.dat.size + (x.dat.size : Int) % 2 := by omega
      go_wp2
      go_quiet (fail)
      go_wp2
      exact ⟨⟨k + 1, n + 8 + x.dat.size + x.dat.size % 2, by omega, by go_num, by go_num, hN2, hn9, HW.out.drewN _⟩, by simp [intOf]; omega⟩
    · obtain rfl : k = len := by omega
      have HL := hid (show l.take k = l from by rw [← hll.out]; exact List.take_length)
      rw [HL.out] at HN
      go_wp2
      go_returns
      exact ⟨by rw [HN.out]; rfl, HW.out⟩
end Go.Proofs.YtgkgimfdbkpbdaaDoor
