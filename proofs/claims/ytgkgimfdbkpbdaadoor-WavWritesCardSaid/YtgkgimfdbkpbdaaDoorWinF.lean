/- What win's and the document's Bytes return, for every number below 2^64, every width and both orders (contracts of the functions). -/
import Derived.Test.YtgkgimfdbkpbdaaDoorWinD
namespace Go.Proofs.YtgkgimfdbkpbdaaDoor
open Go.RowKit
set_option linter.unusedVariables false

theorem u8info : (Tryd.prog.info? 5).map (fun i => (i.zero, i.size, i.bytes)) = some (some (.int .u8 0), 1, 1) := by kernel_rfl

/-- Byte j of the d bytes of m, the highest one first if big. -/
def byteAt (m d : Nat) (big : Bool) (j : Nat) : Int := (m : Int) / 2 ^ (8 * (if big then d - 1 - j else j)) % 256
theorem byteAt_bd (m d : Nat) (big : Bool) (j : Nat) : 0 ≤ byteAt m d big j ∧ byteAt m d big j < 256 := by unfold byteAt; omega
def upto (m d : Nat) (big : Bool) (k : Nat) : Array Value := fill d fun j => if j < k then byteAt m d big j else 0
theorem upto_zero (m d : Nat) (big : Bool) : madeCells #[Value.int .u8 0] d = upto m d big 0 := by rw [fill_zero]; exact fill_congr fun j _ => by simp
theorem upto_full (m d : Nat) (big : Bool) : upto m d big d = fill d (byteAt m d big) := fill_congr fun j hj => by simp [hj]
theorem upto_get (m d : Nat) (big : Bool) (k : Nat) (h : k < d) : (upto m d big k)[k]? = some (.int .u8 0) := by rw [upto, fill_get d _ k h]; simp
theorem upto_set (m d : Nat) (big : Bool) (k : Nat) : (upto m d big k).setIfInBounds k (.int .u8 (byteAt m d big k)) = upto m d big (k + 1) := by
  rw [upto, fill_set]
  refine fill_congr fun j hj => ?_
  by_cases e : j = k
  · subst e; simp
  · by_cases l : j < k
    · simp [e, l, Nat.lt_succ_of_lt l]
    · simp [e, l, show ¬ j < k + 1 by omega]
def bytesS (m d : Nat) (big : Bool) : ByteArray := ⟨(strOf d (byteAt m d big)).toArray⟩
def bytesE (m : Nat) (d : Int) : Int := if widB d = true then (if m / 2 ^ (8 * d.toNat) = 0 then 0 else 10) else 1
def bytesV (m : Nat) (d : Int) (big : Bool) : ByteArray := if bytesE m d = 0 then bytesS m d.toNat big else .empty
theorem wid_cases {d : Int} (h : widB d = true) : ∃ k : Nat, d = (k : Int) ∧ (k = 1 ∨ k = 2 ∨ k = 4 ∨ k = 8) := by
  simp only [widB, decide_eq_true_eq] at h
  exact ⟨d.toNat, by omega, by omega⟩
theorem bytesE_bad {m : Nat} {d : Int} (h : widB d = false) : bytesE m d = 1 := by simp [bytesE, h]
theorem bytesE_field {m d : Nat} (h : widB (d : Int) = true) (k : ¬ m / 2 ^ (8 * d) = 0) : bytesE m d = 10 := by
  unfold bytesE
  rw [if_pos h, Int.toNat_natCast, if_neg k]
theorem bytesE_ok {m d : Nat} (h : widB (d : Int) = true) (k : m / 2 ^ (8 * d) = 0) : bytesE m d = 0 := by
  unfold bytesE
  rw [if_pos h, Int.toNat_natCast, if_pos k]
theorem bytesV_bad {m : Nat} {d : Int} {big : Bool} (h : bytesE m d ≠ 0) : bytesV m d big = .empty := if_neg h
theorem bytesV_ok {m d : Nat} {big : Bool} (h : bytesE m d = 0) : bytesV m d big = bytesS m d big := by rw [bytesV, if_pos h, Int.toNat_natCast]
theorem shr_cast (m e : Nat) : (m : Int) / 2 ^ e = ((m / 2 ^ e : Nat) : Int) := by simp
theorem shr_test {m e : Nat} {b : Bool} (h : ((m : Int) / 2 ^ e != 0) = b) : (m / 2 ^ e = 0) ↔ b = false := by
  rw [shr_cast] at h
  subst h
  rw [bne_eq_false_iff_eq]
  omega
/-- The number without its k lowest bytes. -/
def low (m k : Nat) : Nat := m / 256 ^ k
theorem low_zero (m : Nat) : low m 0 = m := by simp [low]
theorem low_succ (m k : Nat) : (low m (k + 1) : Int) = (low m k : Int) / 256 := by
  have : low m (k + 1) = low m k / 256 := by rw [low, low, Nat.pow_succ, Nat.div_div_eq_div_mul]
  omega
theorem low_le (m k : Nat) : low m k ≤ m := Nat.div_le_self _ _
theorem low_byte (m k : Nat) : (low m k : Int) % 256 = (m : Int) / 2 ^ (8 * k) % 256 := by
  rw [shr_cast, low, show (256 : Nat) = 2 ^ 8 from rfl, ← Nat.pow_mul]
theorem low_little (m d k : Nat) : (low m k : Int) % 256 = byteAt m d false k := by rw [low_byte]; simp [byteAt]
theorem low_big (m d k : Nat) (h : k < d) : (low m k : Int) % 256 = byteAt m d true (d - 1 - k) := by
  rw [low_byte, byteAt, if_pos rfl, show d - 1 - (d - 1 - k) = k by omega]
theorem low_zero_iff (m d : Nat) : low m d = 0 ↔ m / 2 ^ (8 * d) = 0 := by rw [low, show (256 : Nat) = 2 ^ 8 from rfl, ← Nat.pow_mul]
/-- The k last bytes are filled in. -/
def downto (m d k : Nat) : Array Value := fill d fun j => if d - 1 - j < k then byteAt m d true j else 0
theorem downto_zero (m d : Nat) : madeCells #[Value.int .u8 0] d = downto m d 0 := by rw [fill_zero]; exact fill_congr fun j _ => by simp
theorem downto_full (m d : Nat) : downto m d d = fill d (byteAt m d true) := fill_congr fun j hj => by simp [show d - 1 - j < d by omega]
theorem downto_get (m d k : Nat) (h : k < d) : (downto m d k)[d - 1 - k]? = some (.int .u8 0) := by
  rw [downto, fill_get d _ _ (by omega)]; simp [show ¬ d - 1 - (d - 1 - k) < k by omega]
theorem downto_set (m d k : Nat) (h : k < d) : (downto m d k).setIfInBounds (d - 1 - k) (.int .u8 (byteAt m d true (d - 1 - k))) = downto m d (k + 1) := by
  rw [downto, fill_set]
  refine fill_congr fun j hj => ?_
  by_cases e : j = d - 1 - k
  · subst e; simp [show d - 1 - (d - 1 - k) < k + 1 by omega]
  · by_cases l : d - 1 - j < k
    · simp [e, l, Nat.lt_succ_of_lt l]
    · simp [e, l, show ¬ d - 1 - j < k + 1 by omega]

set_option maxRecDepth 100000 in
set_option maxHeartbeats 1000000 in
theorem bytes_big (m d : Nat) (hd : 1 ≤ d) (hd8 : d ≤ 8) (hw : widB (d : Int) = true) (w : World) :
    Calls Tryd.prog 50 #[.int .u64 m, .int .i64 d, .bool true] w fun e w' => e = .returned (.tuple #[.string (bytesV m d true), .int .i64 (bytesE m d)]) ∧ Bw w w' := by
  obtain ⟨i0, hi, hz0, hz1, hz2⟩ := info_parts u8info
  have hmk := fun (w : World) => run_make (P := Tryd.prog) w 55 5 i0 (.int .u8 0) Tryd.underlying55 hi hz0 .i64 .i64 (d : Int) (d : Int) (by omega) (by omega) (by rw [hz2]; omega) (by omega)
  have hfull := upto_full m d true
  have Hfull := hid hfull
  clear hfull
  have HW := hid hw
  go_enter Tryd.func50, Tryd.ntmps50
  go_wp2_with (first | (go_at_call 61; refine (isWidth_any _ _).mono ?_; rintro e w' ⟨rfl, rfl⟩) | (go_at_call 63; refine (order_big _ _).mono ?_; rintro e w' ⟨rfl, rfl⟩))
  · go_returns
    have ht : ((m : Int) / 2 ^ (8 * d) != 0) = true := by assumption
    have hE := bytesE_field HW.out (fun h => by have := (shr_test ht).1 h; cases this)
    exact ⟨ret_str (bytesV_bad (by rw [hE]; decide)).symm hE.symm, Bw.refl _⟩
  · have ht : ((m : Int) / 2 ^ (8 * d) != 0) = false := by assumption
    have HE := hid (bytesE_ok HW.out ((shr_test ht).2 rfl))
    clear hmk ht
    go_loopw [26] (fun i wr => ∃ k : Nat, k ≤ d ∧ i = .int .i64 k ∧ Has wr w.heap.size 3 #[.int .i64 d] ∧ Has wr (w.heap.size + 1) 5 (upto m d true k) ∧ Below w.heap.size w wr)
      (fun i _ => d - (intOf i).toNat)
    case atStart =>
      refine ⟨0, Nat.zero_le _, rfl, (Has.new w _ _).alloc _, ?_, ((Below.refl _ _).alloc (Nat.le_refl _) _).alloc (by simp) _⟩
      rw [← upto_zero]
      have := Has.new (w.alloc (Obj.cells #[Value.int .i64 ↑d] 3)) 5 (madeCells #[Value.int .u8 0] d)
      simpa using this
    case round =>
      obtain ⟨k, hk, rfl, hA, hB, hbel⟩ := hrel
      by_cases hlt : k < d
      · have hcA := hA.cell 0
        have hcB := hB.cell k
        rw [upto_get m d true k hlt] at hcB
        have hfB := hB.frozen k
        go_wp2_with (go_at_call 68; refine (big_any d k (by omega) (by omega) (by omega) (by omega) _ _ ?_).mono ?_; exact hcA; rintro e w' ⟨rfl, rfl⟩)
        all_goals go_roundw
        case rel =>
          refine ⟨k + 1, by omega, by go_num, hA.far (by simp) _, ?_, hbel.setCell (by simp) _⟩
          have h1 := hB.put k (.int .u8 (byteAt m d true k))
          rw [upto_set] at h1
          exact h1
        case measure => simp [intOf]; omega
      · obtain rfl : k = d := by omega
        rw [Hfull.out] at hB
        have hcv := conv_fill (P := Tryd.prog) wr 55 9 5 Tryd.underlying55 Tryd.underlying5 Tryd.underlying9 (c := k) hB (fun j _ => byteAt_bd m k true j)
        go_wp2
        go_returns
        exact ⟨ret_str (bytesV_ok HE.out).symm HE.out.symm, Bw.at_end hbel⟩

set_option maxRecDepth 100000 in
set_option maxHeartbeats 1000000 in
theorem bytes_little (m d : Nat) (hd : 1 ≤ d) (hd8 : d ≤ 8) (hw : widB (d : Int) = true) (w : World) :
    Calls Tryd.prog 50 #[.int .u64 m, .int .i64 d, .bool false] w fun e w' => e = .returned (.tuple #[.string (bytesV m d false), .int .i64 (bytesE m d)]) ∧ Bw w w' := by
  obtain ⟨i0, hi, hz0, hz1, hz2⟩ := info_parts u8info
  have hmk := fun (w : World) => run_make (P := Tryd.prog) w 55 5 i0 (.int .u8 0) Tryd.underlying55 hi hz0 .i64 .i64 (d : Int) (d : Int) (by omega) (by omega) (by rw [hz2]; omega) (by omega)
  have hfull := upto_full m d false
  have Hfull := hid hfull
  clear hfull
  have HW := hid hw
  go_enter Tryd.func50, Tryd.ntmps50
  go_wp2_with (first | (go_at_call 61; refine (isWidth_any _ _).mono ?_; rintro e w' ⟨rfl, rfl⟩) | (go_at_call 63; refine (order_little _ _).mono ?_; rintro e w' ⟨rfl, rfl⟩))
  · go_returns
    have ht : ((m : Int) / 2 ^ (8 * d) != 0) = true := by assumption
    have hE := bytesE_field HW.out (fun h => by have := (shr_test ht).1 h; cases this)
    exact ⟨ret_str (bytesV_bad (by rw [hE]; decide)).symm hE.symm, Bw.refl _⟩
  · have ht : ((m : Int) / 2 ^ (8 * d) != 0) = false := by assumption
    have HE := hid (bytesE_ok HW.out ((shr_test ht).2 rfl))
    clear hmk ht
    go_loopw [26] (fun i wr => ∃ k : Nat, k ≤ d ∧ i = .int .i64 k ∧ Has wr (w.heap.size + 1) 5 (upto m d false k) ∧ Below w.heap.size w wr)
      (fun i _ => d - (intOf i).toNat)
    case atStart =>
      refine ⟨0, Nat.zero_le _, rfl, ?_, ((Below.refl _ _).alloc (Nat.le_refl _) _).alloc (by simp) _⟩
      rw [← upto_zero]
      have := Has.new (w.alloc (Obj.cells #[Value.int .i64 ↑d] 3)) 5 (madeCells #[Value.int .u8 0] d)
      simpa using this
    case round =>
      obtain ⟨k, hk, rfl, hB, hbel⟩ := hrel
      by_cases hlt : k < d
      · skip
        have hcB := hB.cell k
        rw [upto_get m d false k hlt] at hcB
        have hfB := hB.frozen k
        go_wp2_with (go_at_call 69; refine (little_any k (by omega) (by omega) _).mono ?_; rintro e w' ⟨rfl, rfl⟩)
        all_goals go_roundw
        case rel =>
          refine ⟨k + 1, by omega, by go_num, ?_, hbel.setCell (by simp) _⟩
          have h1 := hB.put k (.int .u8 (byteAt m d false k))
          rw [upto_set] at h1
          exact h1
        case measure => simp [intOf]; omega
      · obtain rfl : k = d := by omega
        rw [Hfull.out] at hB
        have hcv := conv_fill (P := Tryd.prog) wr 55 9 5 Tryd.underlying55 Tryd.underlying5 Tryd.underlying9 (c := k) hB (fun j _ => byteAt_bd m k false j)
        go_wp2
        go_returns
        exact ⟨ret_str (bytesV_ok HE.out).symm HE.out.symm, Bw.at_end hbel⟩

set_option maxHeartbeats 1000000 in
theorem bytes_any (m : Nat) (d : Int) (big : Bool) (w : World) :
    Calls Tryd.prog 50 #[.int .u64 m, .int .i64 d, .bool big] w fun e w' => e = .returned (.tuple #[.string (bytesV m d big), .int .i64 (bytesE m d)]) ∧ Bw w w' := by
  by_cases hw : widB d = true
  · obtain ⟨k, rfl, hk⟩ := wid_cases hw
    cases big
    · exact bytes_little m k (by omega) (by omega) hw w
    · exact bytes_big m k (by omega) (by omega) hw w
  · have hw1 : widB d = false := by simpa using hw
    have HE := hid (bytesE_bad (m := m) hw1)
    clear hw
    go_enter Tryd.func50, Tryd.ntmps50
    go_wp2_with (go_at_call 61; refine (isWidth_any _ _).mono ?_; rintro e w' ⟨rfl, rfl⟩)
    go_returns
    exact ⟨ret_str (bytesV_bad (by rw [HE.out]; decide)).symm HE.out.symm, Bw.refl _⟩

end Go.Proofs.YtgkgimfdbkpbdaaDoor
