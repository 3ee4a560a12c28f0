import Derived.Test.YtciaebhkemdilabRows
import Derived.Test.YtciaebhkemdilabBase
import Derived.Test.YtciaebhkemdilabSfP
import Derived.Test.YtciaebhkemdilabWinY
import Derived.Test.YtciaebhkemdilabKitC
import Derived.Deep.RegionHeld3
import Derived.StillTailTactics
import Derived.Deep.DeepCutAuto
import Derived.IntWalk
import Derived.ScopeJumps
/- What win's Align returns (contract of the function). -/
namespace Go.Proofs.Ytciaebhkemdilab
open Go.RowKit
set_option linter.unusedVariables false
def Off (n : Int) : Prop := 0 ≤ n ∧ n ≤ 4611686018427387904
def offB (n : Int) : Bool := decide (0 ≤ n ∧ n ≤ 4611686018427387904)
theorem offB_iff {n : Int} : offB n = true ↔ Off n := by simp [offB, Off]
theorem off_bounds {n : Int} (h : offB n = true) : 0 ≤ n ∧ n ≤ 4611686018427387904 := offB_iff.1 h
def AddOk (a b : Int) : Prop := Off a ∧ Off b ∧ a + b ≤ 4611686018427387904
instance (a b : Int) : Decidable (AddOk a b) := by unfold AddOk Off; infer_instance
def addN (a b : Int) : Int := if AddOk a b then a + b else 0
def addB (a b : Int) : Bool := decide (AddOk a b)
theorem addN_yes {a b : Int} (ha : Off a) (hb : Off b) (hc : a + b ≤ 4611686018427387904) : addN a b = a + b := if_pos ⟨ha, hb, hc⟩
theorem addB_yes {a b : Int} (ha : Off a) (hb : Off b) (hc : a + b ≤ 4611686018427387904) : addB a b = true := decide_eq_true ⟨ha, hb, hc⟩
theorem addN_no {a b : Int} (h : ¬ AddOk a b) : addN a b = 0 := if_neg h
theorem addB_no {a b : Int} (h : ¬ AddOk a b) : addB a b = false := decide_eq_false h
theorem ret_add {n m : Int} {a b : Bool} (h : n = m) (k : a = b) : Ending.returned (.tuple #[.int .i64 n, .bool a]) = .returned (.tuple #[.int .i64 m, .bool b]) := by rw [h, k]
set_option maxHeartbeats 400000 in
theorem isOffset_any (n : Int) (w : World) :
    Calls Try.prog 47 #[.int .i64 n] w fun e w' => e = .returned (.bool (offB n)) ∧ w = w' := by
  go_enter Try.func47, Try.ntmps47
  go_wp2
  all_goals (go_ret; refine ⟨ret_bool ?_, rfl⟩; simp [offB]; try omega)
set_option maxHeartbeats 400000 in
theorem wadd_any (a b : Int) (w : World) :
    Calls Try.prog 48 #[.int .i64 a, .int .i64 b] w fun e w' => e = .returned (.tuple #[.int .i64 (addN a b), .bool (addB a b)]) ∧ w = w' := by
  by_cases ha : offB a = true
  · by_cases hb : offB b = true
    · obtain ⟨a0, a1⟩ := off_bounds ha
      obtain ⟨b0, b1⟩ := off_bounds hb
      by_cases hc : b ≤ 4611686018427387904 - a
      · go_enter Try.func48, Try.ntmps48
        go_wp2_with (go_at_call 47; refine (isOffset_any _ _).mono ?_; rintro e w' ⟨rfl, rfl⟩)
        go_ret2
        exact ⟨ret_add (addN_yes ⟨a0, a1⟩ ⟨b0, b1⟩ (by omega)).symm (addB_yes ⟨a0, a1⟩ ⟨b0, b1⟩ (by omega)).symm, rfl⟩
      · go_enter Try.func48, Try.ntmps48
        go_wp2_with (go_at_call 47; refine (isOffset_any _ _).mono ?_; rintro e w' ⟨rfl, rfl⟩)
        go_ret2
        exact ⟨ret_add (addN_no (fun h => by have := h.2.2; omega)).symm (addB_no (fun h => by have := h.2.2; omega)).symm, rfl⟩
    · have hb1 : offB b = false := by simpa using hb
      have hn : ¬ Off b := fun h => hb (offB_iff.2 h)
      clear hb
      go_enter Try.func48, Try.ntmps48
      go_wp2_with (go_at_call 47; refine (isOffset_any _ _).mono ?_; rintro e w' ⟨rfl, rfl⟩)
      go_ret2
      exact ⟨ret_add (addN_no (fun h => hn h.2.1)).symm (addB_no (fun h => hn h.2.1)).symm, rfl⟩
  · have ha1 : offB a = false := by simpa using ha
    have hn : ¬ Off a := fun h => ha (offB_iff.2 h)
    clear ha
    go_enter Try.func48, Try.ntmps48
    go_wp2_with (go_at_call 47; refine (isOffset_any _ _).mono ?_; rintro e w' ⟨rfl, rfl⟩)
    go_ret2
    exact ⟨ret_add (addN_no (fun h => hn h.1)).symm (addB_no (fun h => hn h.1)).symm, rfl⟩
def AlignIn (n a : Int) : Prop := Off n ∧ 1 ≤ a ∧ a ≤ 1048576
instance (a b : Int) : Decidable (AlignIn a b) := by unfold AlignIn Off; infer_instance
def alignN (n a : Int) : Int := if AlignIn n a then (if n % a = 0 then n else addN n (a - n % a)) else 0
def alignB (n a : Int) : Bool := if AlignIn n a then (if n % a = 0 then true else addB n (a - n % a)) else false
theorem alignN_no {n a : Int} (h : ¬ AlignIn n a) : alignN n a = 0 := if_neg h
theorem alignB_no {n a : Int} (h : ¬ AlignIn n a) : alignB n a = false := if_neg h
theorem alignN_zero {n a : Int} (h : AlignIn n a) (k : n % a = 0) : alignN n a = n := by rw [alignN, if_pos h, if_pos k]
theorem alignB_zero {n a : Int} (h : AlignIn n a) (k : n % a = 0) : alignB n a = true := by rw [alignB, if_pos h, if_pos k]
theorem alignN_add {n a : Int} (h : AlignIn n a) (k : ¬ n % a = 0) : alignN n a = addN n (a - n % a) := by rw [alignN, if_pos h, if_neg k]
theorem alignB_add {n a : Int} (h : AlignIn n a) (k : ¬ n % a = 0) : alignB n a = addB n (a - n % a) := by rw [alignB, if_pos h, if_neg k]
set_option maxHeartbeats 400000 in
theorem align_any (n a : Int) (w : World) :
    Calls Try.prog 32 #[.int .i64 n, .int .i64 a] w fun e w' => e = .returned (.tuple #[.int .i64 (alignN n a), .bool (alignB n a)]) ∧ w = w' := by
  by_cases hn : offB n = true
  · obtain ⟨n0, n1⟩ := off_bounds hn
    by_cases ha : 1 ≤ a
    · by_cases hc : a ≤ 1048576
      · have hy : AlignIn n a := ⟨⟨n0, n1⟩, ha, hc⟩
        have hr0 : 0 ≤ n % a := Int.emod_nonneg _ (by omega)
        have hr1 : n % a < a := Int.emod_lt_of_pos _ (by omega)
        by_cases hr : n % a = 0
        · have hrb : (n % a == 0) = true := by rw [beq_iff_eq]; exact hr
          have e1 := hid (alignN_zero hy hr)
          have e2 := hid (alignB_zero hy hr)
          clear hr hy hr0 hr1
          go_enter Try.func32, Try.ntmps32
          go_wp2_with (first | (go_at_call 47; refine (isOffset_any _ _).mono ?_; rintro e w' ⟨rfl, rfl⟩) | (go_at_call 48; refine (wadd_any _ _ _).mono ?_; rintro e w' ⟨rfl, rfl⟩))
          go_ret2
          exact ⟨ret_add e1.out.symm e2.out.symm, rfl⟩
        · have hrb : (n % a == 0) = false := by rw [beq_eq_false_iff_ne]; exact hr
          have e1 := hid (alignN_add hy hr)
          have e2 := hid (alignB_add hy hr)
          clear hr hy
          go_enter Try.func32, Try.ntmps32
          go_wp2_with (first | (go_at_call 47; refine (isOffset_any _ _).mono ?_; rintro e w' ⟨rfl, rfl⟩) | (go_at_call 48; refine (wadd_any _ _ _).mono ?_; rintro e w' ⟨rfl, rfl⟩))
          go_ret2
          exact ⟨ret_add e1.out.symm e2.out.symm, rfl⟩
      · have hy : ¬ AlignIn n a := fun h => hc h.2.2
        go_enter Try.func32, Try.ntmps32
        go_wp2_with (first | (go_at_call 47; refine (isOffset_any _ _).mono ?_; rintro e w' ⟨rfl, rfl⟩) | (go_at_call 48; refine (wadd_any _ _ _).mono ?_; rintro e w' ⟨rfl, rfl⟩))
        go_ret2
        exact ⟨ret_add (alignN_no hy).symm (alignB_no hy).symm, rfl⟩
    · have hy : ¬ AlignIn n a := fun h => ha h.2.1
      go_enter Try.func32, Try.ntmps32
      go_wp2_with (first | (go_at_call 47; refine (isOffset_any _ _).mono ?_; rintro e w' ⟨rfl, rfl⟩) | (go_at_call 48; refine (wadd_any _ _ _).mono ?_; rintro e w' ⟨rfl, rfl⟩))
      go_ret2
      exact ⟨ret_add (alignN_no hy).symm (alignB_no hy).symm, rfl⟩
  · have ha1 : offB n = false := by simpa using hn
    have hy : ¬ AlignIn n a := fun h => hn (offB_iff.2 h.1)
    clear hn
    go_enter Try.func32, Try.ntmps32
    go_wp2_with (first | (go_at_call 47; refine (isOffset_any _ _).mono ?_; rintro e w' ⟨rfl, rfl⟩) | (go_at_call 48; refine (wadd_any _ _ _).mono ?_; rintro e w' ⟨rfl, rfl⟩))
    go_ret2
    exact ⟨ret_add (alignN_no hy).symm (alignB_no hy).symm, rfl⟩
end Go.Proofs.Ytciaebhkemdilab
/- sfnt's small functions: kinds, counts, tags, numbers, the first bytes of a font (contracts of the functions). -/
namespace Go.Proofs.Ytciaebhkemdilab
open Go.RowKit
set_option linter.unusedVariables false
set_option linter.unusedSimpArgs false
set_option maxHeartbeats 400000 in
theorem kind_any (k : Nat) (w : World) : Calls Try.prog 13 #[.int .u32 k] w fun e w' => e = .returned (.bool (kindB k)) ∧ w = w' := by
  by_cases h1 : k = 65536
  · subst h1
    go_enter Try.func13, Try.ntmps13
    go_wp2
    go_returns
    exact ⟨rfl, rfl⟩
  · have t1 : ((k : Int) == 65536) = false := by rw [beq_eq_false_iff_ne]; omega
    have HK := hid (show kindB k = decide (k = 1330926671) from by unfold kindB; rw [decide_eq_false h1, Bool.false_or])
    by_cases h2 : k = 1330926671
    · have t2 : ((k : Int) == 1330926671) = true := by rw [beq_iff_eq]; omega
      have HQ := hid (show kindB k = true by rw [HK.out, decide_eq_true h2])
      clear h1 h2
      go_enter Try.func13, Try.ntmps13
      go_wp2
      go_returns
      exact ⟨by rw [HQ.out]; rfl, rfl⟩
    · have t2 : ((k : Int) == 1330926671) = false := by rw [beq_eq_false_iff_ne]; omega
      have HQ := hid (show kindB k = false by rw [HK.out, decide_eq_false h2])
      clear h1 h2
      go_enter Try.func13, Try.ntmps13
      go_wp2
      go_returns
      exact ⟨by rw [HQ.out]; rfl, rfl⟩
def countB (n : Nat) : Bool := decide (1 ≤ n) && decide (n ≤ 1000)
set_option maxHeartbeats 400000 in
theorem count_any (n : Nat) (w : World) : Calls Try.prog 27 #[.int .i64 n] w fun e w' => e = .returned (.bool (countB n)) ∧ w = w' := by
  by_cases h1 : (1 : Int) ≤ n
  · by_cases h2 : (n : Int) ≤ 1000
    · have HQ := hid (show countB n = true by unfold countB; rw [decide_eq_true (show 1 ≤ n by omega), decide_eq_true (show n ≤ 1000 by omega)]; rfl)
      have d1 : decide ((1 : Int) ≤ n) = true := decide_eq_true h1
      have d2 : decide ((n : Int) ≤ 1000) = true := decide_eq_true h2
      go_enter Try.func27, Try.ntmps27
      go_wp2
      go_returns
      exact ⟨by rw [HQ.out]; rfl, rfl⟩
    · have HQ := hid (show countB n = false by unfold countB; rw [decide_eq_true (show 1 ≤ n by omega), decide_eq_false (show ¬ n ≤ 1000 by omega)]; rfl)
      have d1 : decide ((1 : Int) ≤ n) = true := decide_eq_true h1
      have d2 : decide ((n : Int) ≤ 1000) = false := decide_eq_false h2
      go_enter Try.func27, Try.ntmps27
      go_wp2
      go_returns
      exact ⟨by rw [HQ.out]; rfl, rfl⟩
  · have HQ := hid (show countB n = false by unfold countB; rw [decide_eq_false (show ¬ 1 ≤ n by omega)]; rfl)
    have d1 : decide ((1 : Int) ≤ n) = false := decide_eq_false h1
    go_enter Try.func27, Try.ntmps27
    go_wp2
    go_returns
    exact ⟨by rw [HQ.out]; rfl, rfl⟩
set_option maxHeartbeats 1000000 in
theorem tag_any (s : ByteArray) (hs : s.size ≤ lim) (w : World) : Calls Try.prog 28 #[.string s] w fun e w' => e = .returned (.bool (typB s)) ∧ w = w' := by
  unfold lim at hs
  go_enter Try.func28, Try.ntmps28
  go_wp2
  go_loopw [6] (fun vi wr => ∃ k : Nat, k ≤ s.size ∧ vi = .int .i64 k ∧ Hid (∀ i, i < k → okN (bt s i) = true) ∧ w = wr) (fun vi _ => s.size - (intOf vi).toNat)
  case atStart => exact ⟨0, Nat.zero_le _, rfl, hid (fun i h => absurd h (Nat.not_lt_zero i)), rfl⟩
  case round =>
    rename World => wr
    obtain ⟨k, hk, rfl, HZ, hww⟩ := hrel
    subst hww
    by_cases hlt : k < s.size
    · have hlt1 : (k : Int) < (s.size : Int) := by omega
      have hb := bt_eq s k hlt
      obtain ⟨c, hc⟩ : ∃ c, bt s k = c := ⟨_, rfl⟩
      have HC := hid hc
      rw [hc] at hb
      have HB := hid hb
      by_cases h1 : c < 32
      · have u1 : (s[k]'hlt).toNat < 32 := by omega
        have HN := hid (typ_not hlt (show okN (bt s k) = false from by rw [HC.out]; unfold okN; rw [decide_eq_false (show ¬ 32 ≤ c by omega)]; rfl))
        clear hb hc h1
        go_wp2
        go_returns
        exact ⟨by rw [HN.out]; rfl, rfl⟩
      · have u1 : ¬ (s[k]'hlt).toNat < 32 := by omega
        by_cases h2 : 126 < c
        · have u2 : 126 < (s[k]'hlt).toNat := by omega
          have HN := hid (typ_not hlt (show okN (bt s k) = false from by rw [HC.out]; unfold okN; rw [decide_eq_false (show ¬ c ≤ 126 by omega), Bool.and_false]))
          clear hb hc h1 h2
          go_wp2
          go_returns
          exact ⟨by rw [HN.out]; rfl, rfl⟩
        · have u2 : ¬ 126 < (s[k]'hlt).toNat := by omega
          have HN := hid (show okN (bt s k) = true from by rw [HC.out]; unfold okN; rw [decide_eq_true (show 32 ≤ c by omega), decide_eq_true (show c ≤ 126 by omega)]; rfl)
          clear hb hc h1 h2
          go_wp2
          exact ⟨⟨k + 1, by omega, by go_num, hid (fun i hi => by
            by_cases e : i = k
            · subst e; exact HN.out
            · exact HZ.out i (by omega)), by trivial⟩, by simp [intOf]; omega⟩
    · obtain rfl : k = s.size := by omega
      have HN := hid (typ_all HZ.out)
      by_cases h4 : s.size = 4
      · have t4 : ((s.size : Int) == 4) = true := by rw [beq_iff_eq]; omega
        have HQ := hid (show typB s = true by rw [HN.out, decide_eq_true h4])
        clear h4
        go_wp2
        go_returns
        exact ⟨by rw [HQ.out]; rfl, rfl⟩
      · have t4 : ((s.size : Int) == 4) = false := by rw [beq_eq_false_iff_ne]; omega
        have HQ := hid (show typB s = false by rw [HN.out, decide_eq_false h4])
        clear h4
        go_wp2
        go_returns
        exact ⟨by rw [HQ.out]; rfl, rfl⟩
theorem align_up (n : Nat) (hn : n ≤ 1000000000000) : alignN n 4 = (up4 n : Nat) ∧ alignB n 4 = true := by
  have hin : AlignIn n 4 := by unfold AlignIn Off; omega
  by_cases h0 : (n : Int) % 4 = 0
  · have e : up4 n = n := up4_of (by omega)
    rw [e, alignN_zero hin h0, alignB_zero hin h0]
    exact ⟨rfl, rfl⟩
  · unfold alignN alignB
    rw [if_pos hin, if_pos hin, if_neg h0, if_neg h0]
    have ha : AddOk n (4 - (n : Int) % 4) := by unfold AddOk Off; omega
    unfold addN addB
    rw [if_pos ha]
    refine ⟨?_, decide_eq_true ha⟩
    unfold up4; omega
set_option maxHeartbeats 400000 in
theorem padded_any (n : Nat) (hn : n ≤ 1000000000000) (w : World) : Calls Try.prog 18 #[.int .i64 n] w fun e w' => e = .returned (.int .i64 (up4 n : Nat)) ∧ w = w' := by
  have HA := hid (align_any n 4)
  rw [(align_up n hn).1, (align_up n hn).2] at HA
  go_enter Try.func18, Try.ntmps18
  go_wp2_with fail
  refine (HA.out _).mono ?_
  rintro e w2 ⟨rfl, rfl⟩
  go_wp2
  go_returns
  exact ⟨rfl, rfl⟩
set_option maxHeartbeats 1000000 in
theorem number_any (n d : Nat) (hw : widB (d : Int) = true) (hn : n ≤ 1000000000000) (hf : n / 2 ^ (8 * d) = 0) (w : World) : Calls Try.prog 31 #[.int .i64 n, .int .i64 d] w fun e w' => e = .returned (.string (bytesS n d true)) ∧ Bw w w' := by
  have HB := hid (bytes_any n d true)
  have e1 : bytesE n d = 0 := by unfold bytesE; rw [if_pos hw, if_pos (by simpa using hf)]
  have e2 : bytesV n d true = bytesS n d true := by unfold bytesV; rw [if_pos e1]; rfl
  rw [e1, e2] at HB
  have u1 : IntKind.u64.wrap (n : Int) = n := IntWalk.u64_in _ (by omega)
  clear e1 e2 hf hw
  go_enter Try.func31, Try.ntmps31
  go_wp2_with fail
  refine (HB.out _).mono ?_
  rintro e w2 ⟨rfl, hb⟩
  have HBB := hid hb
  clear hb
  go_wp2
  go_returns
  exact ⟨rfl, HBB.out⟩
end Go.Proofs.Ytciaebhkemdilab
/- sfnt: powers of 2, the first bytes of a font, an entry's bytes (contracts of the functions). -/
namespace Go.Proofs.Ytciaebhkemdilab
open Go.RowKit
set_option linter.unusedVariables false
set_option linter.unusedSimpArgs false
set_option maxRecDepth 100000 in
set_option maxHeartbeats 1000000 in
theorem power_any (n : Nat) (h1 : 1 ≤ n) (h9 : n ≤ 1000000) (w : World) : Calls Try.prog 30 #[.int .i64 n] w fun e w' => e = .returned (.tuple #[.int .i64 (powP n : Nat), .int .i64 (Nat.log2 n : Nat)]) ∧ w = w' := by
  go_enter Try.func30, Try.ntmps30
  go_wp2
  refine wp_scope_jumps 0 (fun a' w' => w = w' ∧ ∃ (p k : Nat) (u6 u7 u8 u9 u10 u11 u12 u13 u14 u15 : Value), a' = { tmps := #[.int .i64 n, undef, .int .i64 0, .int .i64 0, .int .i64 p, .int .i64 k, u6, u7, u8, u9, u10, u11, u12, u13, u14, u15], defers := [] } ∧ Hid (p = 2 ^ k) ∧ 1 ≤ p ∧ p ≤ n ∧ k ≤ p) (fun a' _ => n - (intOf (a'.tmps.getD 4 undef)).toNat) rfl ?_ ?_
  · by_cases hc : (1 : Int) ≤ (n : Int) / 2
    · have HC := hid hc
      go_wp2
      go_step3
      go_wp2
      go_step3
      refine ⟨rfl, rfl, 2, 1, _, _, _, _, _, _, _, _, _, _, rfl, hid rfl, by omega, by have := HC.out; omega, by omega⟩
    · have hn1 : n = 1 := by omega
      have HN := hid hn1
      clear hn1
      go_wp2
      go_step3
      go_wp2
      simp only [Exit.jump]
      go_returns
      rw [HN.out]
      exact ⟨by rfl, rfl⟩
  · rintro a' w' ⟨hw, p, k, u6, u7, u8, u9, u10, u11, u12, u13, u14, u15, rfl, HP, hp1, hpn, hkp⟩
    subst hw
    by_cases hc : (p : Int) ≤ (n : Int) / 2
    · have HC := hid hc
      have v1 : IntKind.i64.wrap (2 * (p : Int)) = ((2 * p : Nat) : Int) := by rw [IntWalk.i64_in _ (by omega)]; omega
      go_wp2
      go_step3
      refine ⟨rfl, ⟨rfl, 2 * p, k + 1, _, _, _, _, _, _, _, _, _, _, rfl, hid (by rw [HP.out, Nat.pow_succ, Nat.mul_comm]), by omega, by have := HC.out; omega, by omega⟩, ?_⟩
      have := HC.out
      simp [intOf]; omega
    · have HL := hid (show Nat.log2 n = k from by
        have h := HP.out
        refine (Nat.log2_eq_iff (by omega)).2 ⟨by omega, ?_⟩
        rw [Nat.pow_succ]; omega)
      have HQ := hid (show p = powP n from by unfold powP; rw [HL.out, HP.out])
      go_wp2
      simp only [Exit.jump]
      go_returns
      exact ⟨by rw [← HQ.out, HL.out]; rfl, rfl⟩
theorem log_lt {n : Nat} (h1 : 1 ≤ n) (h9 : n ≤ 1000) : Nat.log2 n < 10 := (Nat.log2_lt (by omega)).2 (by omega)
theorem pow_le {n : Nat} (h1 : 1 ≤ n) : powP n ≤ n ∧ 1 ≤ powP n := ⟨Nat.log2_self_le (by omega), Nat.one_le_two_pow⟩
set_option maxRecDepth 100000 in
set_option maxHeartbeats 2000000 in
theorem lead_any (k n : Nat) (hk : k < 4294967296) (h1 : 1 ≤ n) (h9 : n ≤ 1000) (w : World) : Calls Try.prog 16 #[.int .u32 k, .int .i64 n] w fun e w' => e = .returned (.string (headT k n)) ∧ Bw w w' := by
  have hp := pow_le h1
  have hg := log_lt h1 h9
  have HPW := hid (power_any n h1 (by omega) w)
  have HT := hid (show headT k n = bytesS k 4 true ++ bytesS n 2 true ++ bytesS (16 * powP n) 2 true ++ bytesS (Nat.log2 n) 2 true ++ bytesS (16 * (n - powP n)) 2 true from rfl)
  obtain ⟨p, hpp⟩ : ∃ p, powP n = p := ⟨_, rfl⟩
  obtain ⟨g, hgg⟩ : ∃ p, Nat.log2 n = p := ⟨_, rfl⟩
  rw [hpp, hgg] at HPW HT
  rw [hpp] at hp
  rw [hgg] at hg
  have v0 : IntKind.i64.wrap (k : Int) = k := IntWalk.i64_in _ (by omega)
  have v1 : IntKind.i64.wrap (16 * (p : Int)) = ((16 * p : Nat) : Int) := by rw [IntWalk.i64_in _ (by omega)]; omega
  have v2 : IntKind.i64.wrap ((n : Int) - (p : Int)) = ((n - p : Nat) : Int) := by rw [IntWalk.i64_in _ (by omega)]; omega
  have v3 : IntKind.i64.wrap (16 * ((n - p : Nat) : Int)) = ((16 * (n - p) : Nat) : Int) := by rw [IntWalk.i64_in _ (by omega)]; omega
  obtain ⟨a, ha⟩ : ∃ x, 16 * p = x := ⟨_, rfl⟩
  obtain ⟨b, hb⟩ : ∃ x, n - p = x := ⟨_, rfl⟩
  rw [hb] at v2 v3 HT
  obtain ⟨c, hc⟩ : ∃ x, 16 * b = x := ⟨_, rfl⟩
  rw [ha] at v1 HT
  rw [hc] at v3 HT
  have w4 : widB ((4 : Nat) : Int) = true := rfl
  have w2 : widB ((2 : Nat) : Int) = true := rfl
  have N1 := hid (fun W => number_any k 4 w4 (by omega) (by omega) W)
  have N2 := hid (fun W => number_any n 2 w2 (by omega) (by omega) W)
  have N3 := hid (fun W => number_any a 2 w2 (by omega) (by omega) W)
  have N4 := hid (fun W => number_any g 2 w2 (by omega) (by omega) W)
  have N5 := hid (fun W => number_any c 2 w2 (by omega) (by omega) W)
  have z1 := bytesS_size k 4 true
  have z2 := bytesS_size n 2 true
  have z3 := bytesS_size a 2 true
  have z4 := bytesS_size g 2 true
  have z5 := bytesS_size c 2 true
  generalize bytesS k 4 true = A1 at *
  generalize bytesS n 2 true = A2 at *
  generalize bytesS a 2 true = A3 at *
  generalize bytesS g 2 true = A4 at *
  generalize bytesS c 2 true = A5 at *
  clear hpp hgg ha hb hc hp w4 w2
  have HB0 := hid (Bw.refl w)
  go_enter Try.func16, Try.ntmps16
  go_wp2_with fail
  refine HPW.out.mono ?_
  rintro e w1 ⟨rfl, rfl⟩
  go_wp2_with fail
  refine (N1.out _).mono ?_
  rintro e w1 ⟨rfl, hb1⟩
  have HB1 := hid (HB0.out.trans hb1)
  clear hb1 HB0
  go_wp2_with fail
  refine (N2.out _).mono ?_
  rintro e w2 ⟨rfl, hb1⟩
  have HB2 := hid (HB1.out.trans hb1)
  clear hb1 HB1
  go_wp2_with fail
  refine (N3.out _).mono ?_
  rintro e w3 ⟨rfl, hb1⟩
  have HB3 := hid (HB2.out.trans hb1)
  clear hb1 HB2
  go_wp2_with fail
  refine (N4.out _).mono ?_
  rintro e w4 ⟨rfl, hb1⟩
  have HB4 := hid (HB3.out.trans hb1)
  clear hb1 HB3
  go_wp2_with fail
  refine (N5.out _).mono ?_
  rintro e w5 ⟨rfl, hb1⟩
  have HB5 := hid (HB4.out.trans hb1)
  clear hb1 HB4
  go_wp2
  go_returns
  exact ⟨by rw [HT.out]; rfl, HB5.out⟩
set_option maxRecDepth 100000 in
set_option maxHeartbeats 2000000 in
theorem text_entry (t : ByteArray) (ht : t.size = 4) (s p n : Nat) (hs : s < 4294967296) (hp : p < 4294967296) (hn : n < 4294967296) (w : World) : Calls Try.prog 17 #[.agg #[.string t, .int .u32 s, .int .i64 p, .int .i64 n]] w fun e w' => e = .returned (.string (t ++ bytesS s 4 true ++ bytesS p 4 true ++ bytesS n 4 true)) ∧ Bw w w' := by
  have v0 : IntKind.i64.wrap (s : Int) = s := IntWalk.i64_in _ (by omega)
  have w4 : widB ((4 : Nat) : Int) = true := rfl
  have N1 := hid (fun W => (show Calls Try.prog 31 #[.int .i64 s, .int .i64 4] W fun e w' => e = .returned (.string (bytesS s 4 true)) ∧ Bw W w' from number_any s 4 w4 (by omega) (by omega) W))
  have N2 := hid (fun W => (show Calls Try.prog 31 #[.int .i64 p, .int .i64 4] W fun e w' => e = .returned (.string (bytesS p 4 true)) ∧ Bw W w' from number_any p 4 w4 (by omega) (by omega) W))
  have N3 := hid (fun W => (show Calls Try.prog 31 #[.int .i64 n, .int .i64 4] W fun e w' => e = .returned (.string (bytesS n 4 true)) ∧ Bw W w' from number_any n 4 w4 (by omega) (by omega) W))
  have z1 := bytesS_size s 4 true
  have z2 := bytesS_size p 4 true
  have z3 := bytesS_size n 4 true
  generalize bytesS s 4 true = A1 at *
  generalize bytesS p 4 true = A2 at *
  generalize bytesS n 4 true = A3 at *
  have HX := hid (Has.new w 50 #[.string t, .int .u32 s, .int .i64 p, .int .i64 n])
  have HB := hid ((Bw.refl w).alloc (.cells #[.string t, .int .u32 s, .int .i64 p, .int .i64 n] 50))
  obtain ⟨xb, hxb⟩ : ∃ x, w.heap.size = x := ⟨_, rfl⟩
  rw [hxb] at HX
  clear w4
  go_enter Try.func17, Try.ntmps17
  go_upto_region 1 with fail
  generalize w.alloc (.cells #[.string t, .int .u32 s, .int .i64 p, .int .i64 n] 50) = w1 at *
  clear hxb
  have HS := hid (fun W (h : Bw w1 W) => (show W.cell? ⟨xb, 0, none⟩ = some (.string t) ∧ W.cell? ⟨xb, 1, none⟩ = some (.int .u32 s) ∧ W.cell? ⟨xb, 2, none⟩ = some (.int .i64 p) ∧ W.cell? ⟨xb, 3, none⟩ = some (.int .i64 n) from ⟨(h.has HX.out).cell 0, (h.has HX.out).cell 1, (h.has HX.out).cell 2, (h.has HX.out).cell 3⟩))
  have HB1 := hid (show Bw w1 w1.drew from (Bw.refl w1).drewN 1)
  go_region_held3 (fun W => W.cell? ⟨xb, 0, none⟩ = some (.string t) ∧ W.cell? ⟨xb, 1, none⟩ = some (.int .u32 s) ∧ W.cell? ⟨xb, 2, none⟩ = some (.int .i64 p) ∧ W.cell? ⟨xb, 3, none⟩ = some (.int .i64 n))
    (first | exact HS.out _ HB4.out | exact HS.out _ HB3.out | exact HS.out _ HB2.out | exact HS.out _ HB1.out)
    (first
      | (go_at_call 31; with_reducible (first | refine (N1.out _).mono ?_ | refine (N2.out _).mono ?_ | refine (N3.out _).mono ?_); rintro e w2 ⟨rfl, hb⟩; have HB4 := hid (HB3.out.trans hb); clear hb)
      | (go_at_call 31; with_reducible (first | refine (N1.out _).mono ?_ | refine (N2.out _).mono ?_ | refine (N3.out _).mono ?_); rintro e w2 ⟨rfl, hb⟩; have HB3 := hid (HB2.out.trans hb); clear hb)
      | (go_at_call 31; with_reducible (first | refine (N1.out _).mono ?_ | refine (N2.out _).mono ?_ | refine (N3.out _).mono ?_); rintro e w2 ⟨rfl, hb⟩; have HB2 := hid (HB1.out.trans hb); clear hb))
  go_wp2
  go_returns
  exact ⟨rfl, HB.out.trans HB4.out⟩
end Go.Proofs.Ytciaebhkemdilab
