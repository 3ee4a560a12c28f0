/- Plain facts on a burst of turned bits: the bits of a pattern in a byte, and that the CRC of a burst alone is not zero. No program in them. -/
import Derived.Test.YtkdnlnnmeeeolaaDoorSumN
namespace Go.Proofs.YtkdnlnnmeeeolaaDoor

/-- The pattern's bits below i, those of byte d. -/
def ebit (pat i d : Nat) : Nat := pat % 2 ^ i / 2 ^ (8 * d) % 2 ^ 8
theorem ebit_testBit (pat i d b : Nat) : (ebit pat i d).testBit b = (decide (b < 8) && (decide (8 * d + b < i) && pat.testBit (8 * d + b))) := by
  unfold ebit
  rw [Nat.testBit_mod_two_pow, Nat.testBit_div_two_pow, Nat.testBit_mod_two_pow, Nat.add_comm b (8 * d)]
theorem ebit_lt (pat i d : Nat) : ebit pat i d < 256 := Nat.mod_lt _ (by decide)
theorem ebit_0 (pat d : Nat) : ebit pat 0 d = 0 := by unfold ebit; rw [Nat.pow_zero, Nat.mod_one]; simp
theorem ebit_far (pat i d : Nat) (h : i / 8 ≠ d) : ebit pat (i + 1) d = ebit pat i d := by
  apply Nat.eq_of_testBit_eq
  intro b
  rw [ebit_testBit, ebit_testBit]
  by_cases hb : b < 8
  · have : decide (8 * d + b < i + 1) = decide (8 * d + b < i) := by rw [decide_eq_decide]; omega
    rw [this]
  · simp [hb]
theorem ebit_no (pat i d : Nat) (h : pat.testBit i = false) : ebit pat (i + 1) d = ebit pat i d := by
  apply Nat.eq_of_testBit_eq
  intro b
  rw [ebit_testBit, ebit_testBit]
  by_cases e : 8 * d + b = i
  · rw [e, h]; simp
  · have : decide (8 * d + b < i + 1) = decide (8 * d + b < i) := by rw [decide_eq_decide]; omega
    rw [this]
theorem ebit_yes (pat i d : Nat) (h : pat.testBit i = true) (hd : i / 8 = d) : ebit pat (i + 1) d = ebit pat i d ^^^ 2 ^ (i % 8) := by
  apply Nat.eq_of_testBit_eq
  intro b
  rw [Nat.testBit_xor, ebit_testBit, ebit_testBit, Nat.testBit_two_pow]
  by_cases e : i % 8 = b
  · have e1 : 8 * d + b = i := by omega
    have e2 : b < 8 := by omega
    rw [e1, h]; simp [e, e2]
  · by_cases hb : b < 8
    · have : decide (8 * d + b < i + 1) = decide (8 * d + b < i) := by rw [decide_eq_decide]; omega
      rw [this]; simp [e]
    · simp [hb, e]

/-- What byte j is, i bits of the pattern being turned, from byte p on. -/
def trnE (pat p i j : Nat) : Nat := if p ≤ j then ebit pat i (j - p) else 0
def trnB (s : ByteArray) (pat p i j : Nat) : Nat := byt s j ^^^ trnE pat p i j
theorem trnE_lt (pat p i j : Nat) : trnE pat p i j < 256 := by unfold trnE; split; exact ebit_lt _ _ _; decide
theorem trnB_lt (s : ByteArray) (pat p i j : Nat) : trnB s pat p i j < 256 := Nat.xor_lt_two_pow (n := 8) (byt_lt s j) (trnE_lt pat p i j)
theorem trnB_0 (s : ByteArray) (pat p j : Nat) : trnB s pat p 0 j = byt s j := by
  unfold trnB trnE; rw [ebit_0]; split <;> rw [Nat.xor_zero]
theorem trnB_no (s : ByteArray) (pat p i j : Nat) (h : pat.testBit i = false) : trnB s pat p (i + 1) j = trnB s pat p i j := by
  unfold trnB trnE; rw [ebit_no _ _ _ h]
theorem trnB_far (s : ByteArray) (pat p i j : Nat) (h : p + i / 8 ≠ j) : trnB s pat p (i + 1) j = trnB s pat p i j := by
  unfold trnB trnE
  by_cases hp : p ≤ j
  · rw [if_pos hp, if_pos hp, ebit_far _ _ _ (by omega)]
  · rw [if_neg hp, if_neg hp]
theorem trnB_yes (s : ByteArray) (pat p i : Nat) (h : pat.testBit i = true) : trnB s pat p (i + 1) (p + i / 8) = trnB s pat p i (p + i / 8) ^^^ 2 ^ (i % 8) := by
  unfold trnB trnE
  rw [if_pos (by omega), if_pos (by omega), ebit_yes _ _ _ h (by omega), Nat.xor_assoc]
/-- Was a bit turned? -/
def trnT (pat p n : Nat) : Nat → Bool
  | 0 => false
  | i + 1 => trnT pat p n i || (pat.testBit i && decide (p + i / 8 < n))
theorem trnT_ex (pat p n i : Nat) (h : trnT pat p n i = true) : ∃ k, k < i ∧ pat.testBit k = true ∧ p + k / 8 < n := by
  induction i with
  | zero => cases h
  | succ i ih =>
    simp only [trnT, Bool.or_eq_true, Bool.and_eq_true, decide_eq_true_eq] at h
    rcases h with h | ⟨h1, h2⟩
    · obtain ⟨k, h1, h2⟩ := ih h; exact ⟨k, by omega, h2⟩
    · exact ⟨i, by omega, h1, h2⟩

def crc8 (r : Nat) : Nat → Nat
  | 0 => r
  | k + 1 => crcF8 (crc8 r k)
theorem split256 (r : Nat) : 256 * (r / 256) ^^^ r % 256 = r := by
  have h : 2 ^ 8 * (r / 2 ^ 8) + r % 2 ^ 8 = 2 ^ 8 * (r / 2 ^ 8) ^^^ r % 2 ^ 8 := by
    apply Nat.eq_of_testBit_eq
    intro i
    rw [Nat.testBit_xor, Nat.testBit_two_pow_mul_add _ (Nat.mod_lt _ (by decide)), Nat.testBit_two_pow_mul]
    by_cases hi : i < 8
    · simp [hi, Nat.not_le.2 hi]
    · have h : r % 2 ^ 8 < 2 ^ i := Nat.lt_of_lt_of_le (Nat.mod_lt _ (by decide)) (Nat.pow_le_pow_right (by decide) (Nat.le_of_not_lt hi))
      rw [if_neg hi, Nat.testBit_lt_two_pow h]
      simp [Nat.le_of_not_lt hi]
  have e := Nat.div_add_mod r (2 ^ 8)
  rw [h] at e
  exact e
theorem crcF_ne {r : Nat} (h : r < 4294967296) (h0 : r ≠ 0) : crcF r ≠ 0 := by
  unfold crcF
  intro e
  have e1 : r / 2 = (if r % 2 = 1 then 3988292384 else 0) := by
    have := congrArg (· ^^^ (if r % 2 = 1 then 3988292384 else 0)) e
    simp only [Nat.xor_assoc, Nat.xor_self, Nat.xor_zero, Nat.zero_xor] at this
    exact this
  split at e1 <;> omega
theorem crcF4_ne {r : Nat} (h : r < 4294967296) (h0 : r ≠ 0) : crcF4 r ≠ 0 :=
  crcF_ne (crcF_lt (crcF_lt (crcF_lt h))) (crcF_ne (crcF_lt (crcF_lt h)) (crcF_ne (crcF_lt h) (crcF_ne h h0)))
theorem crcF8_ne {r : Nat} (h : r < 4294967296) (h0 : r ≠ 0) : crcF8 r ≠ 0 := crcF4_ne (crcF4_lt h) (crcF4_ne h h0)
theorem crc8_lt_ne {r : Nat} (h : r < 4294967296) (h0 : r ≠ 0) (k : Nat) : crc8 r k < 4294967296 ∧ crc8 r k ≠ 0 := by
  induction k with
  | zero => exact ⟨h, h0⟩
  | succ k ih => exact ⟨crcF8_lt ih.1, crcF8_ne ih.1 ih.2⟩
theorem crcF8_zero : crcF8 0 = 0 := by decide
/-- The register of the burst alone: zeros ahead of it leave it as it is; behind them it holds what is left of the burst. -/
theorem crcB_zeros (f : Nat → Nat) (p : Nat) (h : ∀ j, j < p → f j = 0) : crcB 0 f p = 0 := by
  induction p with
  | zero => rfl
  | succ p ih => rw [crcB_succ, ih fun j hj => h j (by omega), h p (by omega)]; exact crcF8_zero
theorem crcB_burst (f : Nat → Nat) (p X : Nat) (m : Nat) (h : ∀ j, j < p → f j = 0) (hx : ∀ i, i < m → f (p + i) = X / 2 ^ (8 * i) % 256) : crcB 0 f (p + m) ^^^ X / 2 ^ (8 * m) = crc8 X m := by
  induction m with
  | zero => rw [Nat.add_zero, crcB_zeros f p h]; simp [crc8]
  | succ m ih =>
    have ih := ih fun i hi => hx i (by omega)
    show crcB 0 f (p + m + 1) ^^^ _ = crcF8 (crc8 X m)
    rw [← ih, crcB_succ, hx m (by omega)]
    have e : X / 2 ^ (8 * (m + 1)) = X / 2 ^ (8 * m) / 256 := by
      rw [Nat.div_div_eq_div_mul, show 8 * (m + 1) = 8 * m + 8 by omega, Nat.pow_add]
    rw [e]
    generalize X / 2 ^ (8 * m) = Y
    rw [← crcF8_256 (Y / 256), ← crcF8_xor, Nat.xor_assoc, Nat.xor_comm (Y % 256), split256]
theorem trn_ne (s : ByteArray) (pat p : Nat) (hp : pat < 4294967296) (hs : p ≤ s.size) (h : trnT pat p s.size 32 = true) (c : Nat) :
    crcB c (trnB s pat p 32) s.size ≠ crcB c (byt s) s.size := by
  obtain ⟨k, hk, hb, hn⟩ := trnT_ex _ _ _ _ h
  have e : crcB c (trnB s pat p 32) s.size = crcB c (byt s) s.size ^^^ crcB 0 (trnE pat p 32) s.size := by
    rw [← crcB_xor2, Nat.xor_zero]; rfl
  rw [e]
  have key : crcB 0 (trnE pat p 32) s.size ≠ 0 := by
    obtain ⟨m, hm⟩ : ∃ m, s.size = p + m := ⟨s.size - p, by omega⟩
    have hx := crcB_burst (trnE pat p 32) p (pat % 2 ^ (8 * m)) m (fun j hj => by unfold trnE; rw [if_neg (by omega)]) (fun i hi => by
      unfold trnE
      rw [if_pos (by omega), show p + i - p = i by omega]
      apply Nat.eq_of_testBit_eq
      intro b
      rw [ebit_testBit, show (256 : Nat) = 2 ^ 8 by decide, Nat.testBit_mod_two_pow, Nat.testBit_div_two_pow, Nat.testBit_mod_two_pow, Nat.add_comm b (8 * i)]
      by_cases hb8 : b < 8
      · have h1 : 8 * i + b < 8 * m := by omega
        by_cases h2 : 8 * i + b < 32
        · simp [h1, h2]
        · have h3 : pat.testBit (8 * i + b) = false := Nat.testBit_lt_two_pow (Nat.lt_of_lt_of_le hp (Nat.pow_le_pow_right (show 0 < 2 by decide) (show 32 ≤ 8 * i + b by omega)))
          simp [h3]
      · simp [hb8])
    rw [Nat.div_eq_of_lt (Nat.mod_lt _ (Nat.two_pow_pos _)), Nat.xor_zero] at hx
    rw [hm, hx]
    refine (crc8_lt_ne (Nat.lt_of_le_of_lt (Nat.mod_le _ _) hp) ?_ m).2
    intro h0
    have h1 : (pat % 2 ^ (8 * m)).testBit k = true := by
      rw [Nat.testBit_mod_two_pow, hb]; simp; omega
    rw [h0] at h1
    simp at h1
  intro h2
  apply key
  have h3 := congrArg (crcB c (byt s) s.size ^^^ ·) h2
  simp only [← Nat.xor_assoc, Nat.xor_self, Nat.zero_xor] at h3
  exact h3
end Go.Proofs.YtkdnlnnmeeeolaaDoor
