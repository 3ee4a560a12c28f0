/- How many bits a token takes, by the formulas and by the symbols. No program in it. -/
import Derived.Test.YtacgnadhpgkcmaaDoorMatM
import Derived.Lib.BitFns
namespace Go.Proofs.YtacgnadhpgkcmaaDoor
open Go.RowKit
set_option linter.unusedVariables false
theorem bitLen_of (x k : Nat) (h1 : 2 ^ k ≤ x) (h2 : x < 2 ^ (k + 1)) (hk : k < 63) : Lib.bitLen x = k + 1 := by
  have hx : x < 2 ^ 64 := Nat.lt_of_lt_of_le h2 (Nat.pow_le_pow_right (by decide) (by omega))
  have e : x / 2 ^ k = 1 := by
    have := Nat.two_pow_pos k
    apply Nat.div_eq_of_lt_le
    · omega
    · rw [Nat.pow_succ] at h2; omega
  rw [Lib.bitLen_shift k x h1 hx, e]
  rfl
/-- Extra bits of a distance. -/
def distX (n : Nat) : Nat := if Lib.bitLen (n - 1) - 2 ≤ 0 then 0 else Lib.bitLen (n - 1) - 2
/-- What a length takes. -/
def lenC (n : Nat) : Nat := (if 115 ≤ n then 8 else 7) + if n < 258 then Lib.bitLen (n - 3) - 3 else 0
/-- From where on, and how many more bits: a length's symbol. -/
def mlenF (s : Nat) : Nat := if s = 285 then 258 else if s - 257 < 8 then 3 + (s - 257) else 3 + (4 + (s - 257) % 4) * 2 ^ ((s - 257) / 4 - 1)
def lenX (s : Nat) : Nat := if s = 285 then 0 else if s - 257 < 8 then 0 else (s - 257) / 4 - 1
def dstF (s : Nat) : Nat := if s < 4 then 1 + s else 1 + (2 + s % 2) * 2 ^ (s / 2 - 1)
def dstX (s : Nat) : Nat := if s < 4 then 0 else s / 2 - 1
/-- The last of the symbols from s0 on that begins at n or ahead. -/
def symGo (f : Nat → Nat) (s0 n : Nat) : Nat → Nat
  | 0 => s0
  | k + 1 => if f (s0 + k) ≤ n then s0 + k else symGo f s0 n k
def mlenS (n : Nat) : Nat := if n = 258 then 285 else symGo mlenF 257 n 28
def dstS (n : Nat) : Nat := symGo dstF 0 n 30
def litF (s : Nat) : Nat := if s < 144 ∨ 279 < s then 8 else if s < 256 then 9 else 7
theorem len_ok : ∀ k : Fin 256, lenC (k.val + 3) = litF (mlenS (k.val + 3)) + lenX (mlenS (k.val + 3)) ∧ 257 ≤ mlenS (k.val + 3) ∧ mlenS (k.val + 3) ≤ 285 := by decide +kernel
theorem dstF_le : ∀ i : Fin 30, ∀ j : Fin 30, i.val ≤ j.val → dstF i.val ≤ dstF j.val := by decide +kernel
theorem symGo_is (f : Nat → Nat) (s0 n : Nat) : ∀ (k s : Nat), s < k → f (s0 + s) ≤ n → (∀ j, s < j → j < k → n < f (s0 + j)) → symGo f s0 n k = s0 + s
  | 0, s, h, _, _ => by omega
  | k + 1, s, h, h1, h2 => by
    rw [symGo]
    by_cases e : s = k
    · subst e; rw [if_pos h1]
    · have := h2 k (by omega) (by omega)
      rw [if_neg (by omega)]
      exact symGo_is f s0 n k s (by omega) h1 fun j a b => h2 j a (by omega)
theorem dst_hi : ∀ i : Fin 29, dstF (i.val + 1) ≤ 2 ^ (dstX i.val + 2) + 1 ∧ (4 ≤ i.val → 2 ^ (dstX i.val + 1) + 1 ≤ dstF i.val) ∧ dstX i.val ≤ 13 := by decide +kernel
theorem dstS_lt (n : Nat) (h : 1 ≤ n) (h2 : n ≤ 32768) : ∃ s, s < 30 ∧ dstS n = s ∧ dstF s ≤ n ∧ (s < 29 → n < dstF (s + 1)) := by
  have key : ∀ k, 1 ≤ k → k ≤ 30 → ∃ s, s < k ∧ dstF s ≤ n ∧ (s + 1 < k → n < dstF (s + 1)) := by
    intro k
    induction k with
    | zero => intro h0; omega
    | succ k ih =>
      intro _ hk
      by_cases e : dstF k ≤ n
      · exact ⟨k, by omega, e, fun h => by omega⟩
      · by_cases k0 : k = 0
        · subst k0; exact absurd h e
        · obtain ⟨s, a, b, c⟩ := ih (by omega) (by omega)
          refine ⟨s, by omega, b, fun hs => ?_⟩
          by_cases hsk : s + 1 < k
          · exact c hsk
          · obtain rfl : s + 1 = k := by omega
            omega
  obtain ⟨s, a, b, c⟩ := key 30 (by omega) (by omega)
  refine ⟨s, a, ?_, b, fun hs => c (by omega)⟩
  have := symGo_is dstF 0 n 30 s a (by rwa [Nat.zero_add]) fun j hj hk => by
    have h1 := c (by omega)
    have h3 := dstF_le ⟨s + 1, by omega⟩ ⟨j, hk⟩ hj
    rw [Nat.zero_add]
    exact Nat.lt_of_lt_of_le h1 h3
  unfold dstS
  rw [this, Nat.zero_add]
theorem dst_ok (n : Nat) (h : 1 ≤ n) (h2 : n ≤ 32768) : distX n = dstX (dstS n) ∧ dstS n < 30 := by
  obtain ⟨s, hs, e, h3, h4⟩ := dstS_lt n h h2
  rw [e]
  refine ⟨?_, hs⟩
  by_cases h5 : s < 4
  · have : n < 5 := by
      have h6 := h4 (by omega)
      have h7 := dstF_le ⟨s + 1, by omega⟩ ⟨4, by decide⟩ (by simp; omega)
      have : dstF 4 = 5 := by decide
      simp at h7; omega
    have hx : dstX s = 0 := by unfold dstX; rw [if_pos h5]
    rw [hx]
    have : n = 1 ∨ n = 2 ∨ n = 3 ∨ n = 4 := by omega
    rcases this with rfl | rfl | rfl | rfl <;> decide
  · have lo : 2 ^ (dstX s + 1) + 1 ≤ dstF s ∧ dstX s ≤ 13 ∧ n ≤ 2 ^ (dstX s + 2) := by
      by_cases h6 : s = 29
      · subst h6
        exact ⟨by decide, by decide, by rw [show 2 ^ (dstX 29 + 2) = 32768 from by decide]; exact h2⟩
      · have a := dst_hi ⟨s, by omega⟩
        simp only at a
        have := h4 (by omega)
        exact ⟨a.2.1 (by omega), a.2.2, by omega⟩
    have hb := bitLen_of (n - 1) (dstX s + 1) (by omega) (by have e2 : dstX s + 1 + 1 = dstX s + 2 := rfl; rw [e2]; omega) (by omega)
    unfold distX
    rw [hb]
    split <;> omega
theorem distX_le (n : Nat) (h : 1 ≤ n) (h2 : n ≤ 32768) : distX n ≤ 13 := by
  have := dst_ok n h h2
  rw [this.1]
  have h3 : ∀ s : Fin 30, dstX s.val ≤ 13 := by decide +kernel
  exact h3 ⟨_, this.2⟩
theorem lenC_le : ∀ k : Fin 256, lenC (k.val + 3) ≤ 13 := by decide +kernel
/-- What a token takes. -/
def tokC (t : TokR) : Int := if isB t then litC t.lit else ((lenC t.len.toNat + 5 + distX t.dist.toNat : Nat) : Int)
def tokOk (t : TokR) : Bool := isB t || isM t
def costOk (l : List TokR) : Bool := l.all tokOk
def costGo (l : List TokR) : Int := l.foldl (fun n t => n + tokC t) 7
theorem costGo_snoc (l : List TokR) (t : TokR) : costGo (l ++ [t]) = costGo l + tokC t := by unfold costGo; rw [List.foldl_append]; rfl
theorem tokC_le {t : TokR} (h : tokOk t = true) : 0 ≤ tokC t ∧ tokC t ≤ 31 := by
  unfold tokC
  cases hb : isB t with
  | true => simp only [if_true]; unfold litC; split <;> omega
  | false =>
    have hm : isM t = true := by simpa [tokOk, hb] using h
    obtain ⟨a, b, c, d, e⟩ := isM_iff.1 hm
    have h1 := distX_le t.dist.toNat (by omega) (by omega)
    have h2 := lenC_le ⟨t.len.toNat - 3, by omega⟩
    simp only at h2
    rw [show t.len.toNat - 3 + 3 = t.len.toNat by omega] at h2
    simp only [Bool.false_eq_true, if_false]
    omega
theorem costGo_le (l : List TokR) (h : costOk l = true) : 7 ≤ costGo l ∧ costGo l ≤ 7 + 31 * l.length := by
  have key : ∀ (l : List TokR) (a : Int), costOk l = true → a ≤ l.foldl (fun n t => n + tokC t) a ∧ l.foldl (fun n t => n + tokC t) a ≤ a + 31 * l.length := by
    intro l
    induction l with
    | nil => intro a _; simp
    | cons t l ih =>
      intro a h
      have h1 : tokOk t = true ∧ costOk l = true := by simpa [costOk] using h
      have h2 := tokC_le h1.1
      have := ih (a + tokC t) h1.2
      rw [List.foldl_cons, List.length_cons]
      omega
  exact key l 7 h
def costE (l : List TokR) : Int := if costOk l then 0 else 1
def costV (l : List TokR) : Int := if costOk l then costGo l else 0
theorem costOk_take {l : List TokR} (h : costOk l = true) (k : Nat) : costOk (l.take k) = true := by
  unfold costOk at *
  rw [List.all_eq_true] at *
  exact fun t ht => h t (List.mem_of_mem_take ht)
theorem costOk_next {l : List TokR} {k : Nat} (hk : k < l.length) (h : costOk (l.take k) = true) : costOk (l.take (k + 1)) = tokOk l[k] := by
  rw [List.take_succ_eq_append_getElem hk]
  unfold costOk at *
  rw [List.all_append, h]
  simp
theorem costOk_bad {l : List TokR} {k : Nat} (hk : k < l.length) (h : tokOk l[k] = false) : costOk l = false := by
  unfold costOk
  rw [List.all_eq_false]
  exact ⟨l[k], List.getElem_mem hk, by simp [h]⟩
theorem costGo_next {l : List TokR} {k : Nat} (hk : k < l.length) : costGo (l.take (k + 1)) = costGo (l.take k) + tokC l[k] := by
  rw [List.take_succ_eq_append_getElem hk, costGo_snoc]
end Go.Proofs.YtacgnadhpgkcmaaDoor
