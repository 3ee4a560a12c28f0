/- What the methods of bits's reader return, and what they leave (contracts of the functions). -/
import Derived.Test.YtcacnidlfjglbaaBitP0
import Derived.Test.YtcacnidlfjglbaaBitM
import Derived.Deep.Cut
import Derived.Laws.ShiftsVarLaws
import Derived.StillTailTactics
namespace Go.Proofs.Ytcacnidlfjglbaa
open Go.RowKit
set_option linter.unusedVariables false

/-- A reader in memory. -/
def Rd (w : World) (g : Nat) (s : ByteArray) (k : Nat) : Prop := Has w g 59 #[.int .i64 k, .string s]
theorem or64 (s : ByteArray) (q j : Nat) (h : q + j < s.size) (hj : j < 5) :
    bits BinOp.or IntKind.u64 (bv s (8 * q) (8 * j) : Nat) (IntKind.u64.wrap ((s[q + j].toNat : Int) * 2 ^ (8 * j))) = (bv s (8 * q) (8 * (j + 1)) : Nat) := by
  have hx : s[q + j].toNat < 256 := s[q + j].toNat_lt
  have hp : 2 ^ (8 * j) ≤ 2 ^ 32 := Nat.pow_le_pow_right (by decide) (by omega)
  have h1 : s[q + j].toNat * 2 ^ (8 * j) < 256 * 2 ^ 32 := Nat.lt_of_lt_of_le (Nat.mul_lt_mul_of_pos_right hx (Nat.two_pow_pos _)) (Nat.mul_le_mul_left _ hp)
  have e1 : IntKind.u64.wrap ((s[q + j].toNat : Int) * 2 ^ (8 * j)) = ((s[q + j].toNat * 2 ^ (8 * j) : Nat) : Int) := by
    rw [IntKind.wrap_u64]
    have : ((s[q + j].toNat : Int) * 2 ^ (8 * j)) = ((s[q + j].toNat * 2 ^ (8 * j) : Nat) : Int) := by simp
    rw [this]
    omega
  rw [e1, u64_or_nat _ _ (by have := bv_lt40 s (8 * q) (8 * j) (by omega); omega) (by omega), bv_or s q j h]
theorem and64 (s : ByteArray) (q r n : Nat) (hr : r < 8) (hn : n ≤ 32) :
    bits BinOp.and IntKind.u64 ((bv s (8 * q) (8 * ((r + n + 7) / 8)) : Nat) / 2 ^ r) (IntKind.u64.wrap (IntKind.u64.wrap (2 ^ n) - 1)) = (bv s (8 * q + r) n : Nat) := by
  have hp : 2 ^ n ≤ 2 ^ 32 := Nat.pow_le_pow_right (by decide) hn
  have hp0 := Nat.two_pow_pos n
  have e0 : ((2 : Int) ^ n) = ((2 ^ n : Nat) : Int) := by simp
  have e1 : IntKind.u64.wrap (IntKind.u64.wrap ((2 : Int) ^ n) - 1) = ((2 ^ n - 1 : Nat) : Int) := by
    rw [IntKind.wrap_u64, IntKind.wrap_u64, e0]
    omega
  have hv := bv_lt40 s (8 * q) (8 * ((r + n + 7) / 8)) (by omega)
  have hd : bv s (8 * q) (8 * ((r + n + 7) / 8)) / 2 ^ r ≤ bv s (8 * q) (8 * ((r + n + 7) / 8)) := Nat.div_le_self _ _
  have e2 : ((bv s (8 * q) (8 * ((r + n + 7) / 8)) : Nat) : Int) / 2 ^ r = ((bv s (8 * q) (8 * ((r + n + 7) / 8)) / 2 ^ r : Nat) : Int) := by simp
  rw [e1, e2, u64_and_nat _ _ (by omega) (by omega), and_mask, bv_part s _ _ _ _ (by omega)]
set_option maxRecDepth 100000 in
set_option maxHeartbeats 1000000 in
theorem bits_ok (g : Nat) (s : ByteArray) (hs : s.size ≤ 281474976710656) (k n : Nat) (hn : n ≤ 32) (hk : k + n ≤ 8 * s.size) (w : World) (h : Rd w g s k) :
    Calls Try.prog 23 #[.pointer (some ⟨g, 0, none⟩), .int .i64 n] w fun e w' => e = .returned (.tuple #[.int .u32 (bv s k n : Nat), .int .i64 0]) ∧ Rd w' g s (k + n) ∧ Keeps (· = g) w w' := by
  have hc0 : w.cell? ⟨g, 0, none⟩ = some (.int .i64 k) := h.cell 0
  have hc1 : w.cell? ⟨g, 1, none⟩ = some (.string s) := h.cell 1
  have hcn : cntB n = true := decide_eq_true ⟨by omega, by omega⟩
  have hb := isCount_any n w
  rw [hcn] at hb
  have HB := hid hb
  have HH := hid h
  clear hb hcn h
  go_enter Try.func23, Try.ntmps23
  go_wp2_with fail
  refine HB.out.mono ?_
  rintro e w' ⟨rfl, rfl⟩
  go_wp2_with fail
  go_quiet (fail)
  go_wp2_with fail
  obtain ⟨q, hq⟩ : ∃ q, k / 8 = q := ⟨_, rfl⟩
  obtain ⟨r, hr⟩ : ∃ r, k % 8 = r := ⟨_, rfl⟩
  have hqr : k = 8 * q + r := by omega
  have hr8 : r < 8 := by omega
  have hbe : ∀ wr : World, wr.cell? ⟨g, 0, none⟩ = some (.int .i64 k) → Calls Try.prog 29 #[.pointer (some ⟨g, 0, none⟩)] wr fun e w' => e = .returned (.int .i64 (r : Nat)) ∧ w' = wr := fun wr hc => by
    have := begun_any g k (by omega) wr hc
    rw [hr] at this
    exact quiet_flip this
  have HBE := hid hbe
  clear hbe
  have hbg := begun_any g k (by omega) (w.drewN nq) (by simpa using hc0)
  rw [hr] at hbg
  have HBG := hid hbg
  have hwh : ∀ wr : World, wr.cell? ⟨g, 0, none⟩ = some (.int .i64 k) → Calls Try.prog 30 #[.pointer (some ⟨g, 0, none⟩)] wr fun e w' => e = .returned (.int .i64 (q : Nat)) ∧ w' = wr := fun wr hc => by
    have := whole_any g k (by omega) wr hc
    rw [hq] at this
    exact quiet_flip this
  have HWH := hid hwh
  have HQR := hid hqr
  clear hbg hwh hq hr hqr
  refine HBG.out.mono ?_
  rintro e w' ⟨rfl, rfl⟩
  have hm5 : (r + n + 7) / 8 ≤ 5 := by omega
  go_wp2_with fail
  go_loopw [6, 37] (fun v i wr => ∃ j : Nat, j ≤ (r + n + 7) / 8 ∧ i = .int .i64 j ∧ v = .int .u64 (bv s (8 * q) (8 * j) : Nat) ∧ ∃ z, wr = w.drewN z) (fun _ i _ => 5 - (intOf i).toNat)
  case atStart => exact ⟨0, Nat.zero_le _, rfl, by rw [Nat.mul_zero, bv_zero]; rfl, nq, rfl⟩
  case round =>
    obtain ⟨j, hj, rfl, rfl, z, hz⟩ := hrel
    rename_i wr
    have d0 : wr.cell? ⟨g, 0, none⟩ = some (.int .i64 k) := by rw [hz]; simpa using hc0
    have d1 : wr.cell? ⟨g, 1, none⟩ = some (.string s) := by rw [hz]; simpa using hc1
    have HZ := hid hz
    clear hz
    by_cases hlt : j < (r + n + 7) / 8
    · have hx : q + j < s.size := by have := HQR.out; omega
      have hsx : s[q + j].toNat < 256 := s[q + j].toNat_lt
      have hv := bv_lt40 s (8 * q) (8 * j) (by omega)
      have i0 : (0 : Int) ≤ (q : Int) + j := by omega
      have i1 : (q : Int) + j < s.size := by omega
      have i2 : ((q : Int) + j).toNat = q + j := by omega
      go_wp2_with fail
      go_quiet ((go_at_call 30; exact Calls.quiet_of_same (HWH.out _ (by simpa using d0))))
      go_wp2
      go_roundw
      case rel =>
        exact ⟨j + 1, by omega, by go_num, by rw [or64 s q j hx (by omega)], z + nq, by rw [HZ.out]; simp⟩
      case measure => simp [intOf]; omega
    · obtain rfl : j = (r + n + 7) / 8 := by omega
      go_wp2_with fail
      go_quiet ((go_at_call 29; exact Calls.quiet_of_same (HBE.out _ (by simpa using d0))))
      have HA := hid (and64 s q r n hr8 hn)
      go_wp2_with fail
      rw [HA.out]
      have hv := bv_lt32 s (8 * q + r) n hn
      refine (advance_any g k n (by omega) _ (by simpa using d0) ?_).mono ?_
      · simpa [HZ.out] using HH.out.frozen 0
      rintro e w' ⟨rfl, rfl⟩
      go_wp2
      go_returns
      refine ⟨?_, ?_, ?_⟩
      · rw [HQR.out]; rfl
      · rw [HZ.out]; unfold Rd; simpa using ((HH.out.drewN z).drewN nq).put 0 (.int .i64 ((k + n : Nat) : Int))
      · rw [HZ.out]; exact ((((Keeps.refl (· = g) w).drewN z).drewN nq)).setCell (p := ⟨g, 0, none⟩) (.inl rfl) _
/-- What Bits tells, and where the reader stands behind it. -/
def bitsOk (s : ByteArray) (k : Nat) (n : Int) : Bool := cntB n && decide (n ≤ 8 * (s.size : Int) - k)
def bitsV (s : ByteArray) (k : Nat) (n : Int) : Nat := if bitsOk s k n then bv s k n.toNat else 0
def bitsE (s : ByteArray) (k : Nat) (n : Int) : Int := if cntB n then (if n ≤ 8 * (s.size : Int) - k then 0 else 2) else 1
def bitsK (s : ByteArray) (k : Nat) (n : Int) : Nat := if bitsOk s k n then k + n.toNat else k
theorem bits_range {n : Int} (h : cntB n = false) (s : ByteArray) (k : Nat) : bitsV s k n = 0 ∧ bitsE s k n = 1 ∧ bitsK s k n = k := by
  simp [bitsV, bitsE, bitsK, bitsOk, h]
theorem bits_short {n : Int} (h : cntB n = true) (s : ByteArray) (k : Nat) (hk : ¬ n ≤ 8 * (s.size : Int) - k) : bitsV s k n = 0 ∧ bitsE s k n = 2 ∧ bitsK s k n = k := by
  simp [bitsV, bitsE, bitsK, bitsOk, h, hk]
theorem bits_good (n : Nat) (h : n ≤ 32) (s : ByteArray) (k : Nat) (hk : k + n ≤ 8 * s.size) : bitsV s k n = bv s k n ∧ bitsE s k n = 0 ∧ bitsK s k n = k + n := by
  have h1 : cntB (n : Int) = true := decide_eq_true ⟨by omega, by omega⟩
  have h2 : (n : Int) ≤ 8 * (s.size : Int) - k := by omega
  simp [bitsV, bitsE, bitsK, bitsOk, h1, h2]
theorem bitsK_le (s : ByteArray) (k : Nat) (n : Int) (h : k ≤ 8 * s.size) : bitsK s k n ≤ 8 * s.size := by
  unfold bitsK bitsOk
  split
  · rename_i hb
    rw [Bool.and_eq_true] at hb
    have h1 := cntB_true hb.1
    have h2 := of_decide_eq_true hb.2
    omega
  · exact h
theorem bitsV_lt (s : ByteArray) (k : Nat) (n : Int) : bitsV s k n < 4294967296 := by
  unfold bitsV bitsOk
  split
  · rename_i hb
    rw [Bool.and_eq_true] at hb
    have h1 := cntB_true hb.1
    exact bv_lt32 _ _ _ (by omega)
  · omega
def BitsPost (g : Nat) (s : ByteArray) (k : Nat) (n : Int) (w : World) (e : Ending) (w' : World) : Prop :=
  e = .returned (.tuple #[.int .u32 (bitsV s k n : Nat), .int .i64 (bitsE s k n)]) ∧ Rd w' g s (bitsK s k n) ∧ Keeps (· = g) w w'
set_option maxHeartbeats 400000 in
theorem bits_nil (n : Int) (w : World) :
    Calls Try.prog 23 #[.pointer none, .int .i64 n] w fun e w' => e = .returned (.tuple #[.int .u32 0, .int .i64 1]) ∧ w = w' := by
  go_enter Try.func23, Try.ntmps23
  go_wp2
  go_returns
  exact ⟨rfl, rfl⟩
set_option maxHeartbeats 400000 in
theorem bits_bad (g : Nat) (n : Int) (hn : cntB n = false) (w : World) :
    Calls Try.prog 23 #[.pointer (some ⟨g, 0, none⟩), .int .i64 n] w fun e w' => e = .returned (.tuple #[.int .u32 0, .int .i64 1]) ∧ w = w' := by
  have hb := isCount_any n w
  rw [hn] at hb
  have HB := hid hb
  clear hb hn
  go_enter Try.func23, Try.ntmps23
  go_wp2_with fail
  refine HB.out.mono ?_
  rintro e w' ⟨rfl, rfl⟩
  go_wp2
  go_returns
  exact ⟨rfl, rfl⟩
set_option maxHeartbeats 400000 in
theorem bits_few (g : Nat) (s : ByteArray) (hs : s.size ≤ 281474976710656) (k : Nat) (hk8 : k ≤ 8 * s.size) (n : Int) (hn : cntB n = true) (hk : ¬ n ≤ 8 * (s.size : Int) - k) (w : World) (h : Rd w g s k) :
    Calls Try.prog 23 #[.pointer (some ⟨g, 0, none⟩), .int .i64 n] w fun e w' => e = .returned (.tuple #[.int .u32 0, .int .i64 2]) ∧ ∃ z, w' = w.drewN z := by
  have hc0 : w.cell? ⟨g, 0, none⟩ = some (.int .i64 k) := h.cell 0
  have hc1 : w.cell? ⟨g, 1, none⟩ = some (.string s) := h.cell 1
  have hb := isCount_any n w
  have hn2 := cntB_true hn
  rw [hn] at hb
  have HB := hid hb
  clear hb hn h
  go_enter Try.func23, Try.ntmps23
  go_wp2_with fail
  refine HB.out.mono ?_
  rintro e w' ⟨rfl, rfl⟩
  go_wp2_with fail
  go_quiet (fail)
  go_wp2
  go_returns
  exact ⟨rfl, nq, rfl⟩
theorem bits_any (g : Nat) (s : ByteArray) (hs : s.size ≤ 281474976710656) (k : Nat) (hk : k ≤ 8 * s.size) (n : Int) (w : World) (h : Rd w g s k) :
    Calls Try.prog 23 #[.pointer (some ⟨g, 0, none⟩), .int .i64 n] w (BitsPost g s k n w) := by
  unfold BitsPost
  cases hn : cntB n with
  | false =>
    obtain ⟨e1, e2, e3⟩ := bits_range hn s k
    rw [e1, e2, e3]
    refine (bits_bad g n hn w).mono ?_
    rintro e w' ⟨rfl, rfl⟩
    exact ⟨rfl, h, Keeps.refl _ _⟩
  | true =>
    by_cases hl : n ≤ 8 * (s.size : Int) - k
    · obtain ⟨h0, h1⟩ := cntB_true hn
      obtain ⟨m, rfl⟩ := Int.eq_ofNat_of_zero_le h0
      obtain ⟨e1, e2, e3⟩ := bits_good m (by omega) s k (by omega)
      rw [e1, e2, e3]
      exact bits_ok g s hs k m (by omega) (by omega) w h
    · obtain ⟨e1, e2, e3⟩ := bits_short hn s k hl
      rw [e1, e2, e3]
      refine (bits_few g s hs k hk n hn hl w h).mono ?_
      rintro e w' ⟨rfl, z, rfl⟩
      exact ⟨rfl, h.drewN z, (Keeps.refl _ _).drewN z⟩
set_option maxHeartbeats 400000 in
theorem at_nil (w : World) :
    Calls Try.prog 16 #[.pointer none] w fun e w' => e = .returned (.int .i64 0) ∧ w = w' := by
  go_enter Try.func16, Try.ntmps16
  go_wp2
  go_ret
  exact ⟨rfl, rfl⟩
set_option maxHeartbeats 400000 in
theorem at_any (g : Nat) (s : ByteArray) (k : Nat) (w : World) (h : Rd w g s k) :
    Calls Try.prog 16 #[.pointer (some ⟨g, 0, none⟩)] w fun e w' => e = .returned (.int .i64 k) ∧ w = w' := by
  have hc0 : w.cell? ⟨g, 0, none⟩ = some (.int .i64 k) := h.cell 0
  clear h
  go_enter Try.func16, Try.ntmps16
  go_wp2
  go_ret
  exact ⟨rfl, rfl⟩
set_option maxHeartbeats 400000 in
theorem newR_any (s : ByteArray) (w : World) :
    Calls Try.prog 14 #[.string s] w fun e w' => e = .returned (.pointer (some ⟨w.heap.size, 0, none⟩)) ∧ Rd w' w.heap.size s 0 ∧ Bw w w' ∧ w.heap.size < w'.heap.size := by
  go_enter Try.func14, Try.ntmps14
  go_wp2
  go_ret
  exact ⟨rfl, Has.new w _ _, (Bw.refl w).alloc _, by simp⟩
theorem lift_advance (g k n : Nat) (hk : k + n ≤ 1152921504606846976) (s : ByteArray) (w : World) (h : Rd w g s k) :
    Calls Try.prog 31 #[.pointer (some ⟨g, 0, none⟩), .int .i64 n] w fun e w' => e = .returned (.tuple #[]) ∧ Rd w' g s (k + n) ∧ Keeps (· = g) w w' := by
  refine (advance_any g k n hk w (h.cell 0) (h.frozen 0)).mono ?_
  rintro e w' ⟨rfl, rfl⟩
  refine ⟨rfl, ?_, Keeps.of_setCell (F := (· = g)) (p := ⟨g, 0, none⟩) rfl _⟩
  have := Has.put h 0 (.int .i64 ((k + n : Nat) : Int))
  unfold Rd
  simpa using this
end Go.Proofs.Ytcacnidlfjglbaa
