/- Expressions, plain: whether they may be; what they are worth. No program in it. -/
import Derived.Test.YtlilmidffcmkjaaDoorExpP
namespace Go.Proofs.YtlilmidffcmkjaaDoor
open Go.RowKit
set_option linter.unusedVariables false
/-- An operator's level; 0: it is none. -/
def lvlGo : List (List UInt8 × Nat) → ByteArray → Nat
  | [], _ => 0
  | p :: r, o => if o = ⟨p.1.toArray⟩ then p.2 else lvlGo r o
def lvlOf (o : ByteArray) : Nat := lvlGo sgnT o
/-- A name. -/
def nameB (w : ByteArray) : Bool := decide (0 < w.size) && decide (w.size ≤ 16) && isLet (bAt w 0) && decide (wordK w 0 = w.size)
def leafB (x : ExpR) : Bool := decide (x.op = nilS) && decide (x.l = 0) && decide (x.r = 0) && ((decide (x.name = nilS) && decide (x.n ≤ mostN)) || (decide (x.n = 0) && nameB x.name))
def operB (x : ExpR) (i : Nat) : Bool := decide (0 < lvlOf x.op) && decide (x.name = nilS) && decide (x.n = 0) && decide (0 ≤ x.l) && decide (x.l < i) && decide (0 ≤ x.r) && decide (x.r < i)
def itemB (x : ExpR) (i : Nat) : Bool := leafB x || operB x i
/-- From the i-th on. -/
def allGo : List ExpR → Nat → Bool
  | [], _ => true
  | x :: r, i => itemB x i && allGo r (i + 1)
def checkB (l : List ExpR) : Bool := decide (l.length ≤ 400) && allGo l 0
def checkX (l : List ExpR) : Int := if checkB l then 0 else 9
theorem allGo_get : ∀ (l : List ExpR) (i k : Nat) (h : allGo l i = true) (hk : k < l.length), itemB l[k] (i + k) = true
  | x :: r, i, 0, h, hk => by
    rw [allGo, Bool.and_eq_true] at h
    exact h.1
  | x :: r, i, k + 1, h, hk => by
    rw [allGo, Bool.and_eq_true] at h
    have := allGo_get r (i + 1) k h.2 (by simpa using hk)
    rw [show i + (k + 1) = i + 1 + k by omega]
    exact this
theorem allGo_next {l : List ExpR} {k : Nat} (hk : k < l.length) : allGo (l.drop k) k = (itemB l[k] k && allGo (l.drop (k + 1)) (k + 1)) := by
  rw [List.drop_eq_getElem_cons hk, allGo]
theorem check_item {l : List ExpR} (h : checkB l = true) {k : Nat} (hk : k < l.length) : itemB l[k] k = true := by
  unfold checkB at h
  rw [Bool.and_eq_true] at h
  have := allGo_get l 0 k h.2 hk
  rwa [Nat.zero_add] at this
/-- A name's meaning. -/
structure BindR where
  name : ByteArray
  n : Nat
def findR : List BindR → ByteArray → Nat × Int
  | [], _ => (0, 9)
  | b :: r, w => if b.name = w then (if b.n ≤ mostN then (b.n, 0) else (0, 3)) else findR r w
/-- What an operator makes of two numbers. -/
def applyO (o : ByteArray) (a b : Nat) : Option Nat :=
  let lim (n : Nat) : Option Nat := if n ≤ mostN then some n else none
  if o = ⟨#[61, 61]⟩ then some (if a = b then 1 else 0)
  else if o = ⟨#[33, 61]⟩ then some (if a = b then 0 else 1)
  else if o = ⟨#[60]⟩ then some (if a < b then 1 else 0)
  else if o = ⟨#[124]⟩ then lim (a ||| b)
  else if o = ⟨#[38]⟩ then some (a &&& b)
  else if o = ⟨#[60, 60]⟩ then (if a = 0 then some 0 else if 62 < b then none else lim (a * 2 ^ b))
  else if o = ⟨#[62, 62]⟩ then some (if b < 63 then a / 2 ^ b else 0)
  else if o = ⟨#[43]⟩ then lim (a + b)
  else if o = ⟨#[45]⟩ then (if b ≤ a then some (a - b) else none)
  else if o = ⟨#[42]⟩ then lim (a * b)
  else if b = 0 then none
  else if o = ⟨#[47]⟩ then some (a / b)
  else some (a % b)
/-- What an expression is worth, where those ahead are known. -/
def oneW (x : ExpR) (t : List (Nat × Int)) (names : List BindR) : Nat × Int :=
  if x.name ≠ nilS then findR names x.name
  else if x.op = nilS then (x.n, 0)
  else if (t.getD x.l.toNat (0, 0)).2 ≠ 0 then (0, (t.getD x.l.toNat (0, 0)).2)
  else if (t.getD x.r.toNat (0, 0)).2 ≠ 0 then (0, (t.getD x.r.toNat (0, 0)).2)
  else match applyO x.op (t.getD x.l.toNat (0, 0)).1 (t.getD x.r.toNat (0, 0)).1 with
    | some n => (n, 0)
    | none => (0, 3)
/-- What the first k are worth. -/
def tabW (l : List ExpR) (names : List BindR) : Nat → List (Nat × Int)
  | 0 => []
  | k + 1 => tabW l names k ++ [oneW (l.getD k ⟨nilS, nilS, 0, 0, 0⟩) (tabW l names k) names]
theorem tabW_len (l : List ExpR) (names : List BindR) : ∀ k, (tabW l names k).length = k
  | 0 => rfl
  | k + 1 => by rw [tabW, List.length_append, tabW_len l names k]; rfl
/-- What the i-th is worth. -/
def wrt (l : List ExpR) (names : List BindR) (i : Nat) : Nat × Int := oneW (l.getD i ⟨nilS, nilS, 0, 0, 0⟩) (tabW l names i) names
theorem tabW_get (l : List ExpR) (names : List BindR) : ∀ k i, i < k → (tabW l names k).getD i (0, 0) = wrt l names i
  | 0, i, h => by omega
  | k + 1, i, h => by
    have hl := tabW_len l names k
    rw [tabW, List.getD_eq_getElem?_getD]
    by_cases c : i < k
    · rw [List.getElem?_append_left (by omega), ← List.getD_eq_getElem?_getD]
      exact tabW_get l names k i c
    · obtain rfl : i = k := by omega
      rw [List.getElem?_append_right (by omega), hl, Nat.sub_self]
      rfl
theorem mostN_val : mostN = 4611686018427387904 := rfl
theorem lor_lt {a b : Nat} (ha : a ≤ mostN) (hb : b ≤ mostN) : a ||| b < 9223372036854775808 := Nat.or_lt_two_pow (n := 63) (by rw [mostN_val] at ha; omega) (by rw [mostN_val] at hb; omega)
theorem land_le {a b : Nat} (ha : a ≤ mostN) : a &&& b ≤ mostN := Nat.le_trans Nat.and_le_left ha
theorem applyO_le {o : ByteArray} {a b n : Nat} (ha : a ≤ mostN) (hb : b ≤ mostN) (h : applyO o a b = some n) : n ≤ mostN := by
  have h1 := land_le (b := b) ha
  have h2 : a / 2 ^ b ≤ a := Nat.div_le_self _ _
  have h3 : a / b ≤ a := Nat.div_le_self _ _
  have h4 : a % b ≤ a := Nat.mod_le _ _
  have h5 := mostN_val
  unfold applyO at h
  simp only at h
  by_cases c0 : o = ⟨#[61, 61]⟩
  · rw [if_pos c0] at h
    injection h with h; split at h <;> omega
  rw [if_neg c0] at h
  by_cases c1 : o = ⟨#[33, 61]⟩
  · rw [if_pos c1] at h
    injection h with h; split at h <;> omega
  rw [if_neg c1] at h
  by_cases c2 : o = ⟨#[60]⟩
  · rw [if_pos c2] at h
    injection h with h; split at h <;> omega
  rw [if_neg c2] at h
  by_cases c3 : o = ⟨#[124]⟩
  · rw [if_pos c3] at h
    split at h
    · injection h with h; omega
    · cases h
  rw [if_neg c3] at h
  by_cases c4 : o = ⟨#[38]⟩
  · rw [if_pos c4] at h
    injection h with h; omega
  rw [if_neg c4] at h
  by_cases c5 : o = ⟨#[60, 60]⟩
  · rw [if_pos c5] at h
    split at h
    · injection h with h; omega
    · split at h
      · cases h
      · split at h
        · injection h with h; omega
        · cases h
  rw [if_neg c5] at h
  by_cases c6 : o = ⟨#[62, 62]⟩
  · rw [if_pos c6] at h
    injection h with h; split at h <;> omega
  rw [if_neg c6] at h
  by_cases c7 : o = ⟨#[43]⟩
  · rw [if_pos c7] at h
    split at h
    · injection h with h; omega
    · cases h
  rw [if_neg c7] at h
  by_cases c8 : o = ⟨#[45]⟩
  · rw [if_pos c8] at h
    split at h
    · injection h with h; omega
    · cases h
  rw [if_neg c8] at h
  by_cases c9 : o = ⟨#[42]⟩
  · rw [if_pos c9] at h
    split at h
    · injection h with h; omega
    · cases h
  rw [if_neg c9] at h
  split at h
  · cases h
  · split at h
    · injection h with h; omega
    · injection h with h; omega
theorem findR_le : ∀ (names : List BindR) (w : ByteArray), (findR names w).1 ≤ mostN
  | [], _ => Nat.zero_le _
  | b :: r, w => by
    rw [findR]
    split
    · split
      · assumption
      · exact Nat.zero_le _
    · exact findR_le r w
end Go.Proofs.YtlilmidffcmkjaaDoor
