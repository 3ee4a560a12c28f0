import Derived.Test.YtlilmidffcmkjaaGreatDoorBase
/- Expressions, plain: how a text is read. No program in it. -/
namespace Go.Proofs.YtlilmidffcmkjaaGreatDoor
open Go.RowKit
set_option linter.unusedVariables false
/-- An expression of a list. -/
structure ExpR where
  op : ByteArray
  name : ByteArray
  n : Nat
  l : Int
  r : Int
deriving DecidableEq
/-- A text's byte; 256 behind its end. -/
def bAt (s : ByteArray) (i : Nat) : Nat := if h : i < s.size then (s[i]'h).toNat else 256
theorem bAt_lt {s : ByteArray} {i : Nat} (h : bAt s i ≠ 256) : i < s.size := by
  unfold bAt at h
  split at h
  · assumption
  · exact absurd rfl h
theorem bAt_in {s : ByteArray} {i : Nat} (h : i < s.size) : bAt s i = (s[i]'h).toNat := dif_pos h
theorem bAt_out {s : ByteArray} {i : Nat} (h : ¬ i < s.size) : bAt s i = 256 := dif_neg h
def isLet (c : Nat) : Bool := (decide (65 ≤ c) && decide (c ≤ 90)) || (decide (97 ≤ c) && decide (c ≤ 122)) || decide (c = 95)
def isDig (c : Nat) : Bool := decide (48 ≤ c) && decide (c ≤ 57)
def isBlk (c : Nat) : Bool := decide (c = 32) || decide (c = 9) || decide (c = 10)
def isWrd (c : Nat) : Bool := isLet c || isDig c
/-- Behind the bytes that are so. -/
def runGo (p : Nat → Bool) (s : ByteArray) : Nat → Nat → Nat
  | 0, k => k
  | f + 1, k => if p (bAt s k) then runGo p s f (k + 1) else k
def runK (p : Nat → Bool) (s : ByteArray) (k : Nat) : Nat := runGo p s (s.size - k) k
theorem runGo_ge (p : Nat → Bool) (s : ByteArray) : ∀ f k, k ≤ runGo p s f k ∧ runGo p s f k ≤ k + f
  | 0, k => ⟨Nat.le_refl _, Nat.le_refl _⟩
  | f + 1, k => by
    rw [runGo]
    split
    · have := runGo_ge p s f (k + 1); omega
    · omega
theorem runK_ge (p : Nat → Bool) (s : ByteArray) (k : Nat) : k ≤ runK p s k := (runGo_ge p s _ k).1
theorem runK_le (p : Nat → Bool) (s : ByteArray) (k : Nat) (h : k ≤ s.size) : runK p s k ≤ s.size := by
  have := (runGo_ge p s (s.size - k) k).2
  unfold runK
  omega
theorem runGo_end (p : Nat → Bool) (hp : p 256 = false) (s : ByteArray) : ∀ f k, s.size ≤ k + f → p (bAt s (runGo p s f k)) = false
  | 0, k, h => by rw [runGo, bAt_out (by omega)]; exact hp
  | f + 1, k, h => by
    rw [runGo]
    split
    · exact runGo_end p hp s f (k + 1) (by omega)
    · rename_i c; simpa using c
theorem runK_end (p : Nat → Bool) (hp : p 256 = false) (s : ByteArray) (k : Nat) : p (bAt s (runK p s k)) = false := runGo_end p hp s _ k (by omega)
theorem runGo_all (p : Nat → Bool) (s : ByteArray) : ∀ f k i, k ≤ i → i < runGo p s f k → p (bAt s i) = true
  | 0, k, i, h1, h2 => by rw [runGo] at h2; omega
  | f + 1, k, i, h1, h2 => by
    rw [runGo] at h2
    split at h2
    · rename_i c
      by_cases e : i = k
      · rw [e]; exact c
      · exact runGo_all p s f (k + 1) i (by omega) h2
    · omega
theorem runK_all {p : Nat → Bool} {s : ByteArray} {k i : Nat} (h1 : k ≤ i) (h2 : i < runK p s k) : p (bAt s i) = true := runGo_all p s _ k i h1 h2
/-- Where it ends, if that is known. -/
theorem runGo_is (p : Nat → Bool) (s : ByteArray) {e : Nat} (he : p (bAt s e) = false) : ∀ f k, k ≤ e → e ≤ k + f → (∀ i, k ≤ i → i < e → p (bAt s i) = true) → runGo p s f k = e
  | 0, k, h1, h2, _ => by rw [runGo]; omega
  | f + 1, k, h1, h2, h => by
    rw [runGo]
    by_cases c : k = e
    · subst c; rw [if_neg (by rw [he]; decide)]
    · rw [if_pos (h k (Nat.le_refl _) (by omega))]
      exact runGo_is p s he f (k + 1) (by omega) (by omega) fun i a b => h i (by omega) b
theorem runK_is {p : Nat → Bool} (hp : p 256 = false) {s : ByteArray} {k e : Nat} (h1 : k ≤ e) (he : p (bAt s e) = false) (h : ∀ i, k ≤ i → i < e → p (bAt s i) = true) : runK p s k = e := by
  refine runGo_is p s he _ k h1 ?_ h
  rcases Nat.lt_or_ge (s.size) e with c | c
  · by_cases d : k = e
    · omega
    · have := h (max k s.size) (by omega) (by omega)
      rw [bAt_out (by omega), hp] at this
      cases this
  · omega
theorem runK_stop {p : Nat → Bool} {s : ByteArray} {k : Nat} (h : p (bAt s k) = false) : runK p s k = k := by
  unfold runK
  cases s.size - k with
  | zero => rfl
  | succ f => rw [runGo, if_neg (by rw [h]; decide)]
def skipK (s : ByteArray) (k : Nat) : Nat := runK isBlk s k
def wordK (s : ByteArray) (k : Nat) : Nat := runK isWrd s k
theorem skip_skip (s : ByteArray) (k : Nat) : skipK s (skipK s k) = skipK s k := runK_stop (runK_end isBlk (by decide) s k)
/-- A digit's number. -/
def digV (c : Nat) : Nat := if isDig c then c - 48 else if 97 ≤ c ∧ c ≤ 102 then c - 87 else 99
def valGo (s : ByteArray) (b : Nat) : Nat → Nat → Nat → Option Nat
  | 0, _, a => some a
  | f + 1, k, a => if digV (bAt s k) < b then valGo s b f (k + 1) (a * b + digV (bAt s k)) else none
def hexB (s : ByteArray) (k : Nat) : Bool := decide (bAt s k = 48) && decide (bAt s (k + 1) = 120)
def mostN : Nat := 4611686018427387904
/-- The digits from k to e as a number. -/
def digN (s : ByteArray) (b k e : Nat) : Option Nat := if k < e then (match valGo s b (e - k) k 0 with | some v => if v ≤ mostN then some v else none | none => none) else none
/-- A number. -/
def numK (s : ByteArray) (k e : Nat) : Option Nat := if hexB s k then digN s 16 (k + 2) e else digN s 10 k e
def nilS : ByteArray := ⟨#[]⟩
/-- A number, or a name. -/
def leafX (s : ByteArray) (k e : Nat) : Option ExpR :=
  if isLet (bAt s k) then (if e - k ≤ 16 then some ⟨nilS, s.extract k e, 0, 0, 0⟩ else none)
  else match numK s k e with | some v => some ⟨nilS, nilS, v, 0, 0⟩ | none => none
/-- The operators: what they are called, their levels. -/
def sgnT : List (List UInt8 × Nat) := [([61, 61], 1), ([33, 61], 1), ([60], 1), ([124], 2), ([38], 3), ([60, 60], 4), ([62, 62], 4), ([43], 5), ([45], 5), ([42], 6), ([47], 6), ([37], 6)]
/-- The operator at k: its level (0: there is none), how long it is. -/
def opK (s : ByteArray) (k : Nat) : Nat × Nat :=
  let a := bAt s k
  let b := bAt s (k + 1)
  if a = 61 then (if b = 61 then (1, 2) else (0, 0))
  else if a = 33 then (if b = 61 then (1, 2) else (0, 0))
  else if a = 60 then (if b = 60 then (4, 2) else (1, 1))
  else if a = 62 then (if b = 62 then (4, 2) else (0, 0))
  else if a = 124 then (2, 1)
  else if a = 38 then (3, 1)
  else if a = 43 ∨ a = 45 then (5, 1)
  else if a = 42 ∨ a = 47 ∨ a = 37 then (6, 1)
  else (0, 0)
theorem opK_or (s : ByteArray) (k : Nat) : opK s k = (0, 0) ∨ (1 ≤ (opK s k).1 ∧ (opK s k).1 ≤ 6 ∧ 1 ≤ (opK s k).2 ∧ (opK s k).2 ≤ 2 ∧ k + (opK s k).2 ≤ s.size) := by
  have h0 : bAt s k ≠ 256 → k < s.size := bAt_lt
  have h1 : bAt s (k + 1) ≠ 256 → k + 1 < s.size := bAt_lt
  obtain ⟨o, ho⟩ : ∃ o, opK s k = o := ⟨_, rfl⟩
  rw [ho]
  unfold opK at ho
  simp only at ho
  generalize bAt s k = a at *
  generalize bAt s (k + 1) = b at *
  repeat' split at ho
  all_goals subst ho
  all_goals first
    | exact .inl rfl
    | exact .inr ⟨by decide, by decide, by decide, by decide, by have := h0 (by omega); have := h1 (by omega); show k + 2 ≤ _; omega⟩
    | exact .inr ⟨by decide, by decide, by decide, by decide, by have := h0 (by omega); show k + 1 ≤ _; omega⟩
abbrev PR := Option (Nat × Nat × List ExpR)
abbrev PE := Nat → Nat → Nat → List ExpR → PR
/-- An operand from k on (blanks are behind). -/
def opdW (s : ByteArray) (E : PE) (k deep : Nat) (l : List ExpR) : PR :=
  if bAt s k = 40 then
    (if deep < 20 then
      match E 1 (k + 1) (deep + 1) l with
      | some (i, k2, l2) => if bAt s k2 = 41 then some (i, k2 + 1, l2) else none
      | none => none
    else none)
  else match leafX s k (wordK s k) with
    | some x => if l.length < 400 then some (l.length, wordK s k, l ++ [x]) else none
    | none => none
/-- Operators of this level at least, and what stands behind them. -/
def loopW (s : ByteArray) (E : PE) (least : Nat) : Nat → Nat → Nat → Nat → List ExpR → PR
  | 0, _, _, _, _ => none
  | g + 1, i, k, deep, l =>
    if (opK s (skipK s k)).1 < least ∨ (opK s (skipK s k)).1 = 0 then some (i, skipK s k, l)
    else match E ((opK s (skipK s k)).1 + 1) (skipK s k + (opK s (skipK s k)).2) deep l with
      | some (r, k2, l2) => if l2.length < 400 then loopW s E least g l2.length k2 deep (l2 ++ [⟨s.extract (skipK s k) (skipK s k + (opK s (skipK s k)).2), nilS, 0, (i : Nat), (r : Nat)⟩]) else none
      | none => none
def exprF (s : ByteArray) : Nat → PE
  | 0, _, _, _, _ => none
  | f + 1, least, k, deep, l =>
    match opdW s (exprF s f) (skipK s k) deep l with
    | some (i, k1, l1) => loopW s (exprF s f) least (s.size + 1) i k1 deep l1
    | none => none
/-- It goes on. -/
def Grows (E : PE) : Prop := ∀ least k deep l i k2 l2, E least k deep l = some (i, k2, l2) → k ≤ k2
theorem leaf_none (s : ByteArray) (k : Nat) (h : s.size ≤ k) : leafX s k (wordK s k) = none := by
  have e : bAt s k = 256 := bAt_out (by omega)
  have hw : wordK s k = k := runK_stop (by rw [e]; decide)
  unfold leafX numK digN hexB
  rw [e, hw]
  simp [isLet]
theorem opd_grows {s : ByteArray} {E : PE} (hE : Grows E) {k deep : Nat} {l : List ExpR} {i k2 : Nat} {l2 : List ExpR} (h : opdW s E k deep l = some (i, k2, l2)) : k ≤ k2 := by
  unfold opdW at h
  split at h
  · split at h
    · split at h
      · rename_i i' k' l' he
        have := hE _ _ _ _ _ _ _ he
        split at h
        · injection h with h; injection h with _ h; injection h with h _; omega
        · cases h
      · cases h
    · cases h
  · split at h
    · split at h
      · injection h with h; injection h with _ h; injection h with h _
        have := runK_ge isWrd s k
        unfold wordK at h
        omega
      · cases h
    · cases h
theorem loop_grows {s : ByteArray} {E : PE} (hE : Grows E) {least : Nat} : ∀ {g i k deep : Nat} {l : List ExpR} {i2 k2 : Nat} {l2 : List ExpR}, loopW s E least g i k deep l = some (i2, k2, l2) → k ≤ k2
  | 0, i, k, deep, l, i2, k2, l2, h => by cases h
  | g + 1, i, k, deep, l, i2, k2, l2, h => by
    have hs := runK_ge isBlk s k
    rw [loopW] at h
    split at h
    · injection h with h; injection h with _ h; injection h with h _
      unfold skipK at h
      omega
    · split at h
      · rename_i r k' l' he
        have h1 := hE _ _ _ _ _ _ _ he
        split at h
        · have := loop_grows hE h
          unfold skipK at h1
          omega
        · cases h
      · cases h
theorem expr_grows (s : ByteArray) : ∀ f, Grows (exprF s f)
  | 0 => fun _ _ _ _ _ _ _ h => by cases h
  | f + 1 => fun least k deep l i k2 l2 h => by
    rw [exprF] at h
    have hs := runK_ge isBlk s k
    split at h
    · rename_i i' k' l' he
      have h1 := opd_grows (expr_grows s f) he
      have h2 := loop_grows (expr_grows s f) h
      unfold skipK at h1
      omega
    · cases h
theorem opd_same {s : ByteArray} {E E' : PE} {k deep : Nat} {l : List ExpR} (h : E 1 (k + 1) (deep + 1) l = E' 1 (k + 1) (deep + 1) l) : opdW s E k deep l = opdW s E' k deep l := by
  unfold opdW
  rw [h]
theorem loop_same {s : ByteArray} {E E' : PE} (hE : Grows E) {m : Nat} (h : ∀ least k deep l, s.size < k + m → E least k deep l = E' least k deep l) {least : Nat} : ∀ g i k deep l, s.size < k + 1 + m → loopW s E least g i k deep l = loopW s E' least g i k deep l
  | 0, _, _, _, _, _ => rfl
  | g + 1, i, k, deep, l, hk => by
    have hs := runK_ge isBlk s k
    rw [loopW, loopW]
    split
    · rfl
    · rename_i c
      have ho := opK_or s (skipK s k)
      have h2 : 1 ≤ (opK s (skipK s k)).2 := by
        rcases ho with e | e
        · rw [e] at c; simp at c
        · exact e.2.2.1
      have hs' : k ≤ skipK s k := hs
      rw [← h _ _ _ _ (by omega)]
      split
      · rename_i r k' l' he
        have h1 := hE _ _ _ _ _ _ _ he
        split
        · exact loop_same hE h g _ _ _ _ (by omega)
        · rfl
      · rfl
theorem expr_more (s : ByteArray) : ∀ f least k deep l, s.size < k + f → exprF s f least k deep l = exprF s (f + 1) least k deep l
  | 0, least, k, deep, l, h => by
    have hsk : skipK s k = k := runK_stop (by rw [bAt_out (by omega)]; decide)
    have : opdW s (exprF s 0) k deep l = none := by
      unfold opdW
      rw [bAt_out (by omega), leaf_none s k (by omega)]
      rfl
    rw [exprF, exprF, hsk, this]
  | f + 1, least, k, deep, l, h => by
    have hs := runK_ge isBlk s k
    have hs' : k ≤ skipK s k := hs
    have ih := expr_more s f
    rw [exprF, exprF]
    rw [← opd_same (E := exprF s f) (E' := exprF s (f + 1)) (ih _ _ _ _ (by omega))]
    split
    · rename_i i' k' l' he
      have h1 := opd_grows (expr_grows s f) he
      exact loop_same (expr_grows s f) (fun a b c d e => ih a b c d e) _ _ _ _ _ (by omega)
    · rfl
/-- An expression, read. -/
def ex (s : ByteArray) : PE := exprF s (s.size + 1)
theorem ex_more (s : ByteArray) (least k deep : Nat) (l : List ExpR) : exprF s (s.size + 2) least k deep l = ex s least k deep l := (expr_more s (s.size + 1) least k deep l (by omega)).symm
theorem ex_eta (s : ByteArray) : exprF s (s.size + 2) = ex s := by
  funext a b c d
  exact ex_more s a b c d
def lp (s : ByteArray) (least i k deep : Nat) (l : List ExpR) : PR := loopW s (ex s) least (s.size + 1) i k deep l
theorem ex_eq (s : ByteArray) (least k deep : Nat) (l : List ExpR) : ex s least k deep l = match opdW s (ex s) (skipK s k) deep l with | some (i, k1, l1) => lp s least i k1 deep l1 | none => none := by
  rw [← ex_more, exprF]
  rfl
theorem ex_grows (s : ByteArray) : Grows (ex s) := expr_grows s _
theorem opK_out (s : ByteArray) (k : Nat) (h : s.size ≤ k) : opK s k = (0, 0) := by
  rcases opK_or s k with e | e
  · exact e
  · omega
theorem loop_more {s : ByteArray} {E : PE} (hE : Grows E) {least : Nat} : ∀ g i k deep l, s.size ≤ k + g → loopW s E least (g + 1) i k deep l = loopW s E least (g + 2) i k deep l
  | 0, i, k, deep, l, h => by
    have hs : k ≤ skipK s k := runK_ge isBlk s k
    have ho := opK_out s (skipK s k) (by omega)
    rw [loopW, loopW, if_pos (.inr (by rw [ho])), if_pos (.inr (by rw [ho]))]
  | g + 1, i, k, deep, l, h => by
    have hs : k ≤ skipK s k := runK_ge isBlk s k
    rw [loopW, loopW]
    split
    · rfl
    · rename_i c
      have h2 : 1 ≤ (opK s (skipK s k)).2 := by
        rcases opK_or s (skipK s k) with e | e
        · rw [e] at c; simp at c
        · exact e.2.2.1
      split
      · rename_i r k' l' he
        have h1 := hE _ _ _ _ _ _ _ he
        split
        · exact loop_more hE g _ _ _ _ (by omega)
        · rfl
      · rfl
/-- Operators that come next, read. -/
theorem lp_eq (s : ByteArray) (least i k deep : Nat) (l : List ExpR) : lp s least i k deep l =
    if (opK s (skipK s k)).1 < least ∨ (opK s (skipK s k)).1 = 0 then some (i, skipK s k, l)
    else match ex s ((opK s (skipK s k)).1 + 1) (skipK s k + (opK s (skipK s k)).2) deep l with
      | some (r, k2, l2) => if l2.length < 400 then lp s least l2.length k2 deep (l2 ++ [⟨s.extract (skipK s k) (skipK s k + (opK s (skipK s k)).2), nilS, 0, (i : Nat), (r : Nat)⟩]) else none
      | none => none := by
  unfold lp
  rw [loop_more (ex_grows s) s.size i k deep l (by omega)]
  rw [loopW]
theorem lp_skip (s : ByteArray) (least i k deep : Nat) (l : List ExpR) : lp s least i (skipK s k) deep l = lp s least i k deep l := by
  rw [lp_eq, lp_eq s least i k, skip_skip]
theorem ex_skip (s : ByteArray) (least k deep : Nat) (l : List ExpR) : ex s least (skipK s k) deep l = ex s least k deep l := by
  rw [ex_eq, ex_eq s least k, skip_skip]
/-- Operators of a level, in two parts: tighter ones first. -/
theorem lp_split (s : ByteArray) (n : Nat) (hn : 1 ≤ n) : ∀ g i k deep l, s.size < k + g → lp s n i k deep l = match lp s (n + 1) i k deep l with | some (i', k', l') => lp s n i' k' deep l' | none => none
  | 0, i, k, deep, l, h => by
    have hs : k ≤ skipK s k := runK_ge isBlk s k
    have ho := opK_out s (skipK s k) (by omega)
    rw [lp_eq s (n + 1), if_pos (.inr (by rw [ho]))]
    exact (lp_skip s n i k deep l).symm
  | g + 1, i, k, deep, l, h => by
    have hs : k ≤ skipK s k := runK_ge isBlk s k
    by_cases c : (opK s (skipK s k)).1 < n + 1 ∨ (opK s (skipK s k)).1 = 0
    · rw [lp_eq s (n + 1), if_pos c]
      exact (lp_skip s n i k deep l).symm
    · have h2 : 1 ≤ (opK s (skipK s k)).2 := by
        rcases opK_or s (skipK s k) with e | e
        · rw [e] at c; simp at c
        · exact e.2.2.1
      rw [lp_eq s (n + 1), if_neg c, lp_eq s n i k, if_neg (by omega)]
      cases he : ex s ((opK s (skipK s k)).1 + 1) (skipK s k + (opK s (skipK s k)).2) deep l with
      | none => rfl
      | some x =>
        obtain ⟨r, k2, l2⟩ := x
        have h1 := ex_grows s _ _ _ _ _ _ _ he
        simp only
        split
        · exact lp_split s n hn g _ _ _ _ (by omega)
        · rfl
theorem ex_split (s : ByteArray) (n : Nat) (hn : 1 ≤ n) (k deep : Nat) (l : List ExpR) : ex s n k deep l = match ex s (n + 1) k deep l with | some (i, k1, l1) => lp s n i k1 deep l1 | none => none := by
  rw [ex_eq, ex_eq s (n + 1)]
  cases opdW s (ex s) (skipK s k) deep l with
  | none => rfl
  | some x =>
    obtain ⟨i, k1, l1⟩ := x
    exact lp_split s n hn (s.size + 1) i k1 deep l1 (by omega)
/-- Behind it no operator of this level stands. -/
theorem lp_ends (s : ByteArray) (n : Nat) : ∀ g i k deep l i2 k2 l2, s.size < k + g → lp s n i k deep l = some (i2, k2, l2) → skipK s k2 = k2 ∧ ((opK s k2).1 < n ∨ (opK s k2).1 = 0)
  | 0, i, k, deep, l, i2, k2, l2, h, e => by
    have hs : k ≤ skipK s k := runK_ge isBlk s k
    have ho := opK_out s (skipK s k) (by omega)
    rw [lp_eq, if_pos (.inr (by rw [ho]))] at e
    injection e with e; injection e with _ e; injection e with e _
    subst e
    exact ⟨skip_skip s k, .inr (by rw [ho])⟩
  | g + 1, i, k, deep, l, i2, k2, l2, h, e => by
    have hs : k ≤ skipK s k := runK_ge isBlk s k
    rw [lp_eq] at e
    split at e
    · rename_i c
      injection e with e; injection e with _ e; injection e with e _
      subst e
      exact ⟨skip_skip s k, c⟩
    · rename_i c
      have h2 : 1 ≤ (opK s (skipK s k)).2 := by
        rcases opK_or s (skipK s k) with e | e
        · rw [e] at c; simp at c
        · exact e.2.2.1
      split at e
      · rename_i r k' l' he
        have h1 := ex_grows s _ _ _ _ _ _ _ he
        split at e
        · exact lp_ends s n g _ _ _ _ _ _ _ (by omega) e
        · cases e
      · cases e
theorem ex_ends (s : ByteArray) (n k deep : Nat) (l : List ExpR) {i2 k2 : Nat} {l2 : List ExpR} (h : ex s n k deep l = some (i2, k2, l2)) : skipK s k2 = k2 ∧ ((opK s k2).1 < n ∨ (opK s k2).1 = 0) := by
  rw [ex_eq] at h
  split at h
  · exact lp_ends s n (s.size + 1) _ _ _ _ _ _ _ (by omega) h
  · cases h
/-- A text, read. -/
def parseF (s : ByteArray) : Option (List ExpR) := match ex s 1 0 0 [] with | some (_, k, l) => if k = s.size then some l else none | none => none
end Go.Proofs.YtlilmidffcmkjaaGreatDoor
/- Expressions, plain: whether they may be; what they are worth. No program in it. -/
namespace Go.Proofs.YtlilmidffcmkjaaGreatDoor
open Go.RowKit
set_option linter.unusedVariables false
/-- An operator's level; 0: it is none. -/
def lvlGo : List (List UInt8 × Nat) → ByteArray → Nat
  | [], _ => 0
  | p :: r, o => if o = ⟨p.1.toArray⟩ then p.2 else lvlGo r o
def lvlOf (o : ByteArray) : Nat := lvlGo sgnT o
/-- A name. -/
def nameB (w : ByteArray) : Bool := decide (0 < w.size) && decide (w.size ≤ 16) && isLet (bAt w 0) && decide (wordK w 0 = w.size)
def leafB (x : ExpR) : Bool := decide (x.op = nilS) && decide (x.l = 0) && decide (x.r = 0) && ((decide (x.name = nilS) && decide (x.n ≤ mostN)) || (decide (x.n = 0) && nameB x.name))
def operB (x : ExpR) (i : Nat) : Bool := decide (0 < lvlOf x.op) && decide (x.name = nilS) && decide (x.n = 0) && decide (0 ≤ x.l) && decide (x.l < i) && decide (0 ≤ x.r) && decide (x.r < i)
def itemB (x : ExpR) (i : Nat) : Bool := leafB x || operB x i
/-- From the i-th on. -/
def allGo : List ExpR → Nat → Bool
  | [], _ => true
  | x :: r, i => itemB x i && allGo r (i + 1)
def checkB (l : List ExpR) : Bool := decide (l.length ≤ 400) && allGo l 0
def checkX (l : List ExpR) : Int := if checkB l then 0 else 9
theorem allGo_get : ∀ (l : List ExpR) (i k : Nat) (h : allGo l i = true) (hk : k < l.length), itemB l[k] (i + k) = true
  | x :: r, i, 0, h, hk => by
    rw [allGo, Bool.and_eq_true] at h
    exact h.1
  | x :: r, i, k + 1, h, hk => by
    rw [allGo, Bool.and_eq_true] at h
    have := allGo_get r (i + 1) k h.2 (by simpa using hk)
    rw [show i + (k + 1) = i + 1 + k by omega]
    exact this
theorem allGo_next {l : List ExpR} {k : Nat} (hk : k < l.length) : allGo (l.drop k) k = (itemB l[k] k && allGo (l.drop (k + 1)) (k + 1)) := by
  rw [List.drop_eq_getElem_cons hk, allGo]
theorem check_item {l : List ExpR} (h : checkB l = true) {k : Nat} (hk : k < l.length) : itemB l[k] k = true := by
  unfold checkB at h
  rw [Bool.and_eq_true] at h
  have := allGo_get l 0 k h.2 hk
  rwa [Nat.zero_add] at this
/-- A name's meaning. -/
structure BindR where
  name : ByteArray
  n : Nat
def findR : List BindR → ByteArray → Nat × Int
  | [], _ => (0, 9)
  | b :: r, w => if b.name = w then (if b.n ≤ mostN then (b.n, 0) else (0, 3)) else findR r w
/-- What an operator makes of two numbers. -/
def applyO (o : ByteArray) (a b : Nat) : Option Nat :=
  let lim (n : Nat) : Option Nat := if n ≤ mostN then some n else none
  if o = ⟨#[61, 61]⟩ then some (if a = b then 1 else 0)
  else if o = ⟨#[33, 61]⟩ then some (if a = b then 0 else 1)
  else if o = ⟨#[60]⟩ then some (if a < b then 1 else 0)
  else if o = ⟨#[124]⟩ then lim (a ||| b)
  else if o = ⟨#[38]⟩ then some (a &&& b)
  else if o = ⟨#[60, 60]⟩ then (if a = 0 then some 0 else if 62 < b then none else lim (a * 2 ^ b))
  else if o = ⟨#[62, 62]⟩ then some (if b < 63 then a / 2 ^ b else 0)
  else if o = ⟨#[43]⟩ then lim (a + b)
  else if o = ⟨#[45]⟩ then (if b ≤ a then some (a - b) else none)
  else if o = ⟨#[42]⟩ then lim (a * b)
  else if b = 0 then none
  else if o = ⟨#[47]⟩ then some (a / b)
  else some (a % b)
/-- What an expression is worth, where those ahead are known. -/
def oneW (x : ExpR) (t : List (Nat × Int)) (names : List BindR) : Nat × Int :=
  if x.name ≠ nilS then findR names x.name
  else if x.op = nilS then (x.n, 0)
  else if (t.getD x.l.toNat (0, 0)).2 ≠ 0 then (0, (t.getD x.l.toNat (0, 0)).2)
  else if (t.getD x.r.toNat (0, 0)).2 ≠ 0 then (0, (t.getD x.r.toNat (0, 0)).2)
  else match applyO x.op (t.getD x.l.toNat (0, 0)).1 (t.getD x.r.toNat (0, 0)).1 with
    | some n => (n, 0)
    | none => (0, 3)
/-- What the first k are worth. -/
def tabW (l : List ExpR) (names : List BindR) : Nat → List (Nat × Int)
  | 0 => []
  | k + 1 => tabW l names k ++ [oneW (l.getD k ⟨nilS, nilS, 0, 0, 0⟩) (tabW l names k) names]
theorem tabW_len (l : List ExpR) (names : List BindR) : ∀ k, (tabW l names k).length = k
  | 0 => rfl
  | k + 1 => by rw [tabW, List.length_append, tabW_len l names k]; rfl
/-- What the i-th is worth. -/
def wrt (l : List ExpR) (names : List BindR) (i : Nat) : Nat × Int := oneW (l.getD i ⟨nilS, nilS, 0, 0, 0⟩) (tabW l names i) names
theorem tabW_get (l : List ExpR) (names : List BindR) : ∀ k i, i < k → (tabW l names k).getD i (0, 0) = wrt l names i
  | 0, i, h => by omega
  | k + 1, i, h => by
    have hl := tabW_len l names k
    rw [tabW, List.getD_eq_getElem?_getD]
    by_cases c : i < k
    · rw [List.getElem?_append_left (by omega), ← List.getD_eq_getElem?_getD]
      exact tabW_get l names k i c
    · obtain rfl : i = k := by omega
      rw [List.getElem?_append_right (by omega), hl, Nat.sub_self]
      rfl
theorem mostN_val : mostN = 4611686018427387904 := rfl
theorem lor_lt {a b : Nat} (ha : a ≤ mostN) (hb : b ≤ mostN) : a ||| b < 9223372036854775808 := Nat.or_lt_two_pow (n := 63) (by rw [mostN_val] at ha; omega) (by rw [mostN_val] at hb; omega)
theorem land_le {a b : Nat} (ha : a ≤ mostN) : a &&& b ≤ mostN := Nat.le_trans Nat.and_le_left ha
theorem applyO_le {o : ByteArray} {a b n : Nat} (ha : a ≤ mostN) (hb : b ≤ mostN) (h : applyO o a b = some n) : n ≤ mostN := by
  have h1 := land_le (b := b) ha
  have h2 : a / 2 ^ b ≤ a := Nat.div_le_self _ _
  have h3 : a / b ≤ a := Nat.div_le_self _ _
  have h4 : a % b ≤ a := Nat.mod_le _ _
  have h5 := mostN_val
  unfold applyO at h
  simp only at h
  by_cases c0 : o = ⟨#[61, 61]⟩
  · rw [if_pos c0] at h
    injection h with h; split at h <;> omega
  rw [if_neg c0] at h
  by_cases c1 : o = ⟨#[33, 61]⟩
  · rw [if_pos c1] at h
    injection h with h; split at h <;> omega
  rw [if_neg c1] at h
  by_cases c2 : o = ⟨#[60]⟩
  · rw [if_pos c2] at h
    injection h with h; split at h <;> omega
  rw [if_neg c2] at h
  by_cases c3 : o = ⟨#[124]⟩
  · rw [if_pos c3] at h
    split at h
    · injection h with h; omega
    · cases h
  rw [if_neg c3] at h
  by_cases c4 : o = ⟨#[38]⟩
  · rw [if_pos c4] at h
    injection h with h; omega
  rw [if_neg c4] at h
  by_cases c5 : o = ⟨#[60, 60]⟩
  · rw [if_pos c5] at h
    split at h
    · injection h with h; omega
    · split at h
      · cases h
      · split at h
        · injection h with h; omega
        · cases h
  rw [if_neg c5] at h
  by_cases c6 : o = ⟨#[62, 62]⟩
  · rw [if_pos c6] at h
    injection h with h; split at h <;> omega
  rw [if_neg c6] at h
  by_cases c7 : o = ⟨#[43]⟩
  · rw [if_pos c7] at h
    split at h
    · injection h with h; omega
    · cases h
  rw [if_neg c7] at h
  by_cases c8 : o = ⟨#[45]⟩
  · rw [if_pos c8] at h
    split at h
    · injection h with h; omega
    · cases h
  rw [if_neg c8] at h
  by_cases c9 : o = ⟨#[42]⟩
  · rw [if_pos c9] at h
    split at h
    · injection h with h; omega
    · cases h
  rw [if_neg c9] at h
  split at h
  · cases h
  · split at h
    · injection h with h; omega
    · injection h with h; omega
theorem findR_le : ∀ (names : List BindR) (w : ByteArray), (findR names w).1 ≤ mostN
  | [], _ => Nat.zero_le _
  | b :: r, w => by
    rw [findR]
    split
    · split
      · assumption
      · exact Nat.zero_le _
    · exact findR_le r w
end Go.Proofs.YtlilmidffcmkjaaGreatDoor
/- Expressions, plain: their plain text. No program in it. -/
namespace Go.Proofs.YtlilmidffcmkjaaGreatDoor
open Go.RowKit
set_option linter.unusedVariables false
/-- A number's digits. -/
def decGo : Nat → Nat → List UInt8
  | 0, _ => []
  | f + 1, n => if n < 10 then [UInt8.ofNat (48 + n)] else decGo f (n / 10) ++ [UInt8.ofNat (48 + n % 10)]
def decB (n : Nat) : List UInt8 := decGo (n + 1) n
/-- A part's text, in brackets if it is looser than is asked for. -/
def partT (l : List ExpR) (tabs : List (List UInt8)) (i : Nat) (least : Nat) : List UInt8 :=
  if (l.getD i ⟨nilS, nilS, 0, 0, 0⟩).op = nilS ∨ least ≤ lvlOf (l.getD i ⟨nilS, nilS, 0, 0, 0⟩).op then tabs.getD i [] else [40] ++ tabs.getD i [] ++ [41]
def oneT (l : List ExpR) (tabs : List (List UInt8)) (x : ExpR) : List UInt8 :=
  if x.op ≠ nilS then partT l tabs x.l.toNat (lvlOf x.op) ++ ([32] ++ x.op.data.toList ++ [32]) ++ partT l tabs x.r.toNat (lvlOf x.op + 1)
  else if x.name ≠ nilS then x.name.data.toList
  else decB x.n
/-- The first k expressions' texts. -/
def tabT (l : List ExpR) : Nat → List (List UInt8)
  | 0 => []
  | k + 1 => tabT l k ++ [oneT l (tabT l k) (l.getD k ⟨nilS, nilS, 0, 0, 0⟩)]
theorem tabT_len (l : List ExpR) : ∀ k, (tabT l k).length = k
  | 0 => rfl
  | k + 1 => by rw [tabT, List.length_append, tabT_len l k]; rfl
/-- The i-th one's text. -/
def txt (l : List ExpR) (i : Nat) : List UInt8 := oneT l (tabT l i) (l.getD i ⟨nilS, nilS, 0, 0, 0⟩)
theorem tabT_get (l : List ExpR) : ∀ k i, i < k → (tabT l k).getD i [] = txt l i
  | 0, i, h => by omega
  | k + 1, i, h => by
    have hl := tabT_len l k
    rw [tabT, List.getD_eq_getElem?_getD]
    by_cases c : i < k
    · rw [List.getElem?_append_left (by omega), ← List.getD_eq_getElem?_getD]
      exact tabT_get l k i c
    · obtain rfl : i = k := by omega
      rw [List.getElem?_append_right (by omega), hl, Nat.sub_self]
      rfl
/-- A part's text. -/
def prt (l : List ExpR) (i : Nat) (least : Nat) : List UInt8 :=
  if (l.getD i ⟨nilS, nilS, 0, 0, 0⟩).op = nilS ∨ least ≤ lvlOf (l.getD i ⟨nilS, nilS, 0, 0, 0⟩).op then txt l i else [40] ++ txt l i ++ [41]
theorem partT_is (l : List ExpR) (k i least : Nat) (h : i < k) : partT l (tabT l k) i least = prt l i least := by
  unfold partT prt
  rw [tabT_get l k i h]
theorem txt_op {l : List ExpR} {i : Nat} {x : ExpR} (hx : l.getD i ⟨nilS, nilS, 0, 0, 0⟩ = x) (ho : x.op ≠ nilS) (hl : x.l.toNat < i) (hr : x.r.toNat < i) :
    txt l i = prt l x.l.toNat (lvlOf x.op) ++ ([32] ++ x.op.data.toList ++ [32]) ++ prt l x.r.toNat (lvlOf x.op + 1) := by
  unfold txt
  rw [hx, oneT, if_pos ho, partT_is l i _ _ hl, partT_is l i _ _ hr]
theorem txt_name {l : List ExpR} {i : Nat} {x : ExpR} (hx : l.getD i ⟨nilS, nilS, 0, 0, 0⟩ = x) (ho : x.op = nilS) (hn : x.name ≠ nilS) : txt l i = x.name.data.toList := by
  unfold txt
  rw [hx, oneT, if_neg (fun h => h ho), if_pos hn]
theorem txt_num {l : List ExpR} {i : Nat} {x : ExpR} (hx : l.getD i ⟨nilS, nilS, 0, 0, 0⟩ = x) (ho : x.op = nilS) (hn : x.name = nilS) : txt l i = decB x.n := by
  unfold txt
  rw [hx, oneT, if_neg (fun h => h ho), if_neg (fun h => h hn)]
theorem decGo_len : ∀ f n k, n < 10 ^ k → 1 ≤ k → (decGo f n).length ≤ k
  | 0, _, _, _, _ => Nat.zero_le _
  | f + 1, n, k, h, h1 => by
    rw [decGo]
    split
    · show 1 ≤ k; omega
    · rename_i c
      match k, h1 with
      | 1, _ => exact absurd h (by omega)
      | k + 2, _ =>
        have : n / 10 < 10 ^ (k + 1) := by
          rw [Nat.pow_succ] at h
          omega
        have := decGo_len f (n / 10) (k + 1) this (by omega)
        rw [List.length_append, List.length_singleton]
        omega
theorem decB_len {n : Nat} (h : n ≤ mostN) : (decB n).length ≤ 19 := decGo_len _ n 19 (Nat.lt_of_le_of_lt h (by decide)) (by decide)
theorem decGo_fuel : ∀ f g n, n < f → n < g → decGo f n = decGo g n
  | 0, _, _, h, _ => by omega
  | _ + 1, 0, _, _, h => by omega
  | f + 1, g + 1, n, hf, hg => by
    rw [decGo, decGo]
    split
    · rfl
    · rw [decGo_fuel f g (n / 10) (by omega) (by omega)]
theorem decB_small {n : Nat} (h : n < 10) : decB n = [UInt8.ofNat (48 + n)] := by rw [decB, decGo, if_pos h]
theorem decB_more {n : Nat} (h : ¬ n < 10) : decB n = decB (n / 10) ++ [UInt8.ofNat (48 + n % 10)] := by
  rw [decB, decGo, if_neg h, decB, decGo_fuel n (n / 10 + 1) (n / 10) (by omega) (by omega)]
theorem decB_ne (n : Nat) : decB n ≠ [] := by
  rw [decB, decGo]
  split
  · simp
  · simp
end Go.Proofs.YtlilmidffcmkjaaGreatDoor
