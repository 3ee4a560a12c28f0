/- Lists of tables: whether they are the same, small; live (contracts of the document's and the law's functions). -/
import Derived.Test.YtciaebhkemdilabSfH
import Derived.Test.YtciaebhkemdilabSfJ
import Derived.Test.YtciaebhkemdilabSfR
import Derived.Deep.QuietTactic
import Derived.BigQuiet
import Derived.Deep.RegionWith
namespace Go.Proofs.Ytciaebhkemdilab
open Go.RowKit
set_option linter.unusedVariables false
set_option linter.unusedSimpArgs false
set_option maxRecDepth 100000 in
set_option maxHeartbeats 4000000 in
/-- The same lists are the same. -/
theorem sameT_eq (a b : Option Addr) (len c d : Nat) (hlen : len ≤ 9223372036854775807) (l : List ChkR) (hll : Hid (l.length = len)) (w : World) (ha : ChkAt w a l) (hb : ChkAt w b l) :
    Calls Try.prog 10 #[.slice a len c, .slice b len d] w fun e w' => e = .returned (.bool true) ∧ Bw w w' := by
  have HA := hid ha
  have HB := hid hb
  clear ha hb
  go_enter Try.func10, Try.ntmps10
  go_wp2
  go_loopw [5] (fun vi wr => ∃ k : Nat, k ≤ len ∧ vi = .int .i64 k ∧ Bw w wr) (fun vi _ => len - (intOf vi).toNat)
  case atStart => exact ⟨0, Nat.zero_le _, rfl, Bw.refl _⟩
  case round =>
    rename World => wr
    obtain ⟨k, hk, rfl, hw⟩ := hrel
    have HW := hid hw
    by_cases hlt : k < len
    · have hk1 : (k : Int) < len := by omega
      obtain ⟨b1, o1, rfl, hb1, p0, p1, _⟩ := HA.out.below hw k (by rw [hll.out]; exact hlt)
      obtain ⟨b2, o2, rfl, hb2, q0, q1, _⟩ := HB.out.below hw k (by rw [hll.out]; exact hlt)
      clear hw
      have hkl : k < l.length := by rw [hll.out]; exact hlt
      obtain ⟨x, hx⟩ : ∃ x, l[k]'hkl = x := ⟨_, rfl⟩
      rw [hx] at p0 p1 q0 q1
      clear hx
      go_wp2_with fail
      go_quiet (fail)
      go_wp2
      exact ⟨⟨k + 1, by omega, by go_num, HW.out.drewN _⟩, by simp [intOf]; omega⟩
    · obtain rfl : k = len := by omega
      go_wp2
      go_returns
      exact ⟨rfl, hw⟩
/-- Not too much to be gone through. -/
structure SmallT (l : List ChkR) : Prop where
  few : l.length ≤ 1001
  all : ∀ i (hi : i < l.length), l[i].dat.size ≤ 5000
def SmaQ (l : List ChkR) (w : World) (e : Ending) (w' : World) : Prop := ∃ b, e = .returned (.bool b) ∧ Bw w w' ∧ (b = true → SmallT l)
set_option maxRecDepth 100000 in
set_option maxHeartbeats 4000000 in
theorem small_any (a : Option Addr) (len c : Nat) (hlen : len ≤ 9223372036854775807) (l : List ChkR) (hll : Hid (l.length = len)) (w : World) (ha : ChkAt w a l) :
    Calls Try.prog 6 #[.slice a len c] w (SmaQ l w) := by
  have HA := hid ha
  clear ha
  have HQ := hid (fun e w' (v : Bool) (he : e = .returned (.bool v)) (hb : Bw w w') (h : v = true → SmallT l) => (show SmaQ l w e w' from ⟨v, he, hb, h⟩))
  go_enter Try.func6, Try.ntmps6
  by_cases h1 : (1001 : Int) < len
  · go_wp2
    go_returns
    exact HQ.out _ _ false rfl (Bw.refl w) (fun h => by cases h)
  have hk9 : len ≤ 1001 := by omega
  go_wp2
  go_loopw [3, 4] (fun vn vi wr => ∃ i T : Nat, i ≤ len ∧ vn = .int .i64 T ∧ vi = .int .i64 i ∧ T ≤ i * 5000 ∧ Bw w wr ∧ Hid (∀ j (hj : j < l.length), j < i → l[j].dat.size ≤ 5000)) (fun _ vi _ => len - (intOf vi).toNat)
  case atStart => exact ⟨0, 0, Nat.zero_le _, rfl, rfl, Nat.le_refl _, Bw.refl _, hid (fun j _ h => by omega)⟩
  case round =>
    rename World => wr
    obtain ⟨i, T, hi, rfl, rfl, hT, hw, hall⟩ := hrel
    have HW := hid hw
    by_cases hlt : i < len
    · have hk2 : (i : Int) < len := by omega
      obtain ⟨b1, o1, rfl, hb1, p0, p1, hok⟩ := HA.out.below hw i (by rw [hll.out]; exact hlt)
      have hd9 := hok.2
      clear hw hok
      have hkl : i < l.length := by rw [hll.out]; exact hlt
      obtain ⟨x, hx⟩ : ∃ x, l[i]'hkl = x := ⟨_, rfl⟩
      have HXX := hid hx
      rw [hx] at p0 p1 hd9
      clear hx
      by_cases q1 : (5000 : Int) < x.dat.size
      · go_wp2
        go_returns
        exact HQ.out _ _ false rfl HW.out (fun h => by cases h)
      by_cases q3 : (100000 : Int) < T
      · go_wp2
        go_returns
        exact HQ.out _ _ false rfl HW.out (fun h => by cases h)
      have v1 : IntKind.i64.wrap ((T : Int) + x.dat.size) = ((T + x.dat.size : Nat) : Int) := by rw [IntWalk.i64_in _ (by omega)]; omega
      go_wp2
      refine ⟨⟨i + 1, T + x.dat.size, by omega, by go_num, by go_num, by omega, HW.out, hid (fun j hj h => ?_)⟩, by simp [intOf]; omega⟩
      by_cases e : j = i
      · subst e
        rw [HXX.out]
        omega
      · exact hall.out j hj (by omega)
    · obtain rfl : i = len := by omega
      go_wp2
      go_returns
      exact HQ.out _ _ true rfl hw (fun _ => ⟨by rw [hll.out]; omega, fun j hj => hall.out j hj (by rw [← hll.out]; exact hj)⟩)
/-- What is read of what was written. -/
theorem read_in {l : List ChkR} {k : Nat} (hk : kindB k = true) (h : MayL l) (hz : (writeT l k).size ≤ 1000000000) (W : World) :
    Calls Try.prog 9 #[.string (writeT l k)] W fun e w' => ∃ a c, e = .returned (.tuple #[.int .u32 k, .slice a l.length c, .int .i64 0]) ∧ ChkAt w' a l ∧ Bw W w' :=
  (sread_any (writeT l k) hz W).mono fun e w' ⟨hb, a, c, he, hc⟩ => by
    obtain ⟨h0, h1, h2⟩ := read_write hk h
    rw [h0, h1, h2] at he
    rw [h1] at hc
    exact ⟨a, c, he, hc, hb⟩
theorem SmallT.off {l : List ChkR} (h : SmallT l) : ∀ k, k ≤ l.length → offN l k ≤ k * 5004 := fun k hk => by
  induction k with
  | zero => exact Nat.le_refl _
  | succ k ih =>
    have h1 := ih (by omega)
    have h2 := h.all k (by omega)
    rw [← tb_get (by omega : k < l.length)] at h2
    have h3 := up4_lt (tb l k).dat.size
    rw [offN, Nat.succ_mul]
    omega
theorem SmallT.size {l : List ChkR} (h : SmallT l) (hm : MayL l) (k : Nat) : (writeT l k).size ≤ 6000000 := by
  rw [writeT_size hm]
  have := h.off l.length (Nat.le_refl _)
  have h2 := hm.few
  have : l.length * 5004 ≤ 1000 * 5004 := Nat.mul_le_mul_right _ h2
  unfold eAt
  omega
theorem write_kind {l : List ChkR} {k : Nat} (h : writeOk l k = true) : kindB k = true ∧ MayL l := by
  unfold writeOk at h
  rw [Bool.and_eq_true] at h
  exact ⟨h.1, may_of h.2⟩
theorem writeP_no {l : List ChkR} {k : Nat} (h : writeOk l k = false) : writeP l k = (⟨#[]⟩, 1) := by
  unfold writeP
  rw [h, if_neg (by decide)]
theorem writeP_yes {l : List ChkR} {k : Nat} (h : writeOk l k = true) : writeP l k = (writeT l k, 0) := if_pos h
/-! live -/
def t0 : ChkR := ⟨⟨#[104, 101, 97, 100]⟩, ⟨#[97, 98, 99, 100, 101]⟩⟩
theorem t0_may : MayL [t0] where
  one := by decide
  few := by decide
  tag := fun i hi => by
    obtain rfl : i = 0 := by simpa using hi
    show typB (⟨#[104, 101, 97, 100]⟩ : ByteArray) = true
    decide +kernel
  ord := fun i hi => by
    obtain rfl : i = 0 := by simpa using hi
    rfl
  big := fun i hi => by
    obtain rfl : i = 0 := by simpa using hi
    show (⟨#[97, 98, 99, 100, 101]⟩ : ByteArray).size ≤ 16777216
    decide +kernel
  all := by
    show 0 + up4 (⟨#[97, 98, 99, 100, 101]⟩ : ByteArray).size < 1073741824
    decide +kernel
theorem t0_at (w : World) : ChkAt (w.alloc (.cells #[.string ⟨#[104, 101, 97, 100]⟩, .string ⟨#[97, 98, 99, 100, 101]⟩] 35)) (some ⟨w.heap.size, 0, none⟩) [t0] := fun i hi => by
  obtain rfl : i = 0 := by simpa using hi
  have h := Has.new w 35 #[.string ⟨#[104, 101, 97, 100]⟩, .string ⟨#[97, 98, 99, 100, 101]⟩]
  refine ⟨w.heap.size, 0, rfl, by simp, h.cell 0, h.cell 1, ?_⟩
  exact ⟨by show (4 : Nat) ≤ 9223372036854775807; decide, by show (5 : Nat) ≤ 9223372036854775807; decide⟩
set_option maxRecDepth 100000 in
set_option maxHeartbeats 8000000 in
theorem live_any (w : World) :
    Calls Try.prog 7 #[] w fun e w' => e = .returned (.bool true) ∧ Bw w w' := by
  have hwr : writeP [t0] 65536 = (writeT [t0] 65536, 0) := writeP_ok rfl (decide_eq_true t0_may)
  have hz : (writeT [t0] 65536).size = 36 := by
    rw [writeT_size t0_may]
    show 12 + 16 * 1 + (0 + up4 (⟨#[97, 98, 99, 100, 101]⟩ : ByteArray).size) = 36
    decide +kernel
  have HRD := hid (fun W => read_in (l := [t0]) (k := 65536) rfl t0_may (by omega) W)
  have h7 : writeP [t0] 7 = (⟨#[]⟩, 1) := writeP_kind rfl
  obtain ⟨s, hs⟩ : ∃ s, writeT [t0] 65536 = s := ⟨_, rfl⟩
  rw [hs] at hwr hz HRD
  have HW2 := hid (fun W a (h : ChkAt W a [t0]) => (show Calls Try.prog 8 #[.int .u32 65536, .slice a 1 1] W fun e w' => e = .returned (.tuple #[.string s, .int .i64 0]) ∧ Bw W w' from by
    have h2 := swrite_any 65536 (by decide) a 1 1 (by decide) [t0] (hid rfl) W h
    rw [hwr] at h2
    exact h2))
  have HW7 := hid (fun W a (h : ChkAt W a [t0]) => (show Calls Try.prog 8 #[.int .u32 7, .slice a 1 1] W fun e w' => e = .returned (.tuple #[.string ⟨#[]⟩, .int .i64 1]) ∧ Bw W w' from by
    have h2 := swrite_any 7 (by decide) a 1 1 (by decide) [t0] (hid rfl) W h
    rw [h7] at h2
    exact h2))
  have HR2 := hid (fun W => (show Calls Try.prog 9 #[.string s] W fun e w' => ∃ a c, e = .returned (.tuple #[.int .u32 65536, .slice a 1 c, .int .i64 0]) ∧ ChkAt w' a [t0] ∧ Bw W w' from HRD.out W))
  have HRN := hid (fun W => (show Calls Try.prog 9 #[.string ⟨#[]⟩] W fun e w' => ∃ a c, e = .returned (.tuple #[.int .u32 0, .slice a 0 c, .int .i64 2]) ∧ Bw W w' from (sread_any ⟨#[]⟩ (by decide) W).mono fun e w' ⟨hb, a, c, he, _⟩ => by
    have h0 : readE ⟨#[]⟩ = 2 := by
      have := head_cut (s := ⟨#[]⟩) (by decide)
      rw [read_head (by rw [this]; decide), this]
    rw [h0, readK_bad (by rw [h0]; decide), readL_bad (by rw [h0]; decide)] at he
    exact ⟨a, c, he, hb⟩))
  have HSM := hid (fun a b c W (h1 : ChkAt W a [t0]) (h2 : ChkAt W b [t0]) => (show Calls Try.prog 10 #[.slice a 1 1, .slice b 1 c] W fun e w' => e = .returned (.bool true) ∧ Bw W w' from
    sameT_eq a b 1 1 c (by decide) [t0] (hid rfl) W h1 h2))
  clear HRD hwr hs h7
  have HA1 := hid ((Bw.refl w).alloc (.cells #[.string ⟨#[104, 101, 97, 100]⟩, .string ⟨#[97, 98, 99, 100, 101]⟩] 35))
  have HX1 := hid (t0_at w)
  obtain ⟨na, hna⟩ : ∃ na, w.heap.size = na := ⟨_, rfl⟩
  rw [hna] at HX1
  go_enter Try.func7, Try.ntmps7
  go_upto_region 2 with fail
  generalize w.alloc (.cells #[.string ⟨#[104, 101, 97, 100]⟩, .string ⟨#[97, 98, 99, 100, 101]⟩] 35) = w1 at *
  clear hna
  go_wp2_with fail
  refine (HW2.out _ _ HX1.out).mono ?_
  rintro e w2 ⟨rfl, hb2⟩
  have HB2 := hid (HA1.out.trans hb2)
  have HX2 := hid (HX1.out.below hb2)
  clear hb2 HA1 HX1 HW2
  go_wp2_with fail
  refine (HR2.out _).mono ?_
  rintro e w3 ⟨a3, c3, rfl, hc3, hb3⟩
  have HB3 := hid (HB2.out.trans hb3)
  have HX3 := hid (HX2.out.below hb3)
  have HC3 := hid hc3
  clear hb3 hc3 HB2 HX2 HR2
  go_wp2_with fail
  refine (HRN.out _).mono ?_
  rintro e w4 ⟨a4, c4, rfl, hb4⟩
  have HB4 := hid (HB3.out.trans hb4)
  have HX4 := hid (HX3.out.below hb4)
  have HC4 := hid (HC3.out.below hb4)
  clear hb4 HB3 HX3 HC3 HRN
  go_wp2_with fail
  refine (HW7.out _ _ HX4.out).mono ?_
  rintro e w5 ⟨rfl, hb5⟩
  have HB5 := hid (HB4.out.trans hb5)
  have HX5 := hid (HX4.out.below hb5)
  have HC5 := hid (HC4.out.below hb5)
  clear hb5 HB4 HX4 HC4 HW7
  have hsz : (s.size : Int) = 36 := by omega
  go_wp2_with fail
  refine (HSM.out _ _ _ _ HX5.out HC5.out).mono ?_
  rintro e w6 ⟨rfl, hb6⟩
  have HB6 := hid (HB5.out.trans hb6)
  clear hb6
  go_wp2
  go_returns
  exact ⟨rfl, HB6.out⟩
end Go.Proofs.Ytciaebhkemdilab
