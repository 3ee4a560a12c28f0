/- Tokens, what they expand to and what they cost, as plain functions. No program in them. -/
import Derived.Test.YtlilmidffcmkjaaDoorBase
namespace Go.Proofs.YtlilmidffcmkjaaDoor
open Go.RowKit
set_option linter.unusedVariables false
/-- A token. -/
structure TokR where
  lit : Nat
  len : Int
  dist : Int
def isB (t : TokR) : Bool := decide (t.dist = 0 ∧ t.len = 0)
def isM (t : TokR) : Bool := decide (1 ≤ t.dist ∧ t.dist ≤ 32768 ∧ 3 ≤ t.len ∧ t.len ≤ 258 ∧ t.lit = 0)
/-- Why a token can't follow so many bytes. -/
def tokE (t : TokR) (k : Nat) (limit : Int) : Int :=
  if isB t then (if limit - k < 1 then 11 else 0) else if isM t then (if (k : Int) < t.dist then 3 else if limit - k < t.len then 11 else 0) else 1
/-- The byte so far back, again. -/
def rep1 (out : List UInt8) (d : Nat) : List UInt8 := out ++ [out.getD (out.length - d) 0]
def rep (out : List UInt8) (d : Nat) : Nat → List UInt8
  | 0 => out
  | n + 1 => rep1 (rep out d n) d
theorem rep_len (out : List UInt8) (d n : Nat) : (rep out d n).length = out.length + n := by
  induction n with
  | zero => rfl
  | succ n ih => rw [rep, rep1, List.length_append, ih]; rfl
def tokX (t : TokR) (out : List UInt8) : List UInt8 := if isB t then out ++ [UInt8.ofNat t.lit] else rep out t.dist.toNat t.len.toNat
def expGo (limit : Int) : List TokR → List UInt8 → Int × List UInt8
  | [], out => (0, out)
  | t :: l, out => if tokE t out.length limit = 0 then expGo limit l (tokX t out) else (tokE t out.length limit, [])
def lmB (limit : Int) : Bool := decide (0 ≤ limit ∧ limit ≤ 1073741824)
def expE (l : List TokR) (limit : Int) : Int := if lmB limit then (expGo limit l []).1 else 1
def expS (l : List TokR) (limit : Int) : ByteArray := ⟨(if lmB limit then (expGo limit l []).2 else []).toArray⟩
theorem isB_iff {t : TokR} : isB t = true ↔ t.dist = 0 ∧ t.len = 0 := by unfold isB; simp
theorem isM_iff {t : TokR} : isM t = true ↔ 1 ≤ t.dist ∧ t.dist ≤ 32768 ∧ 3 ≤ t.len ∧ t.len ≤ 258 ∧ t.lit = 0 := by unfold isM; simp
theorem isM_notB {t : TokR} (h : isM t = true) : isB t = false := by
  have := isM_iff.1 h
  unfold isB; simp; omega
/-- What is put after a token that may be keeps within the limit. -/
theorem tokX_len {t : TokR} {out : List UInt8} {limit : Int} (h : tokE t out.length limit = 0) : (tokX t out).length = out.length + (if isB t then 1 else t.len.toNat) ∧ ((tokX t out).length : Int) ≤ limit := by
  unfold tokE at h
  unfold tokX
  cases hb : isB t with
  | true =>
    simp only [hb, if_true] at h ⊢
    split at h
    · omega
    · simp; omega
  | false =>
    simp only [hb, Bool.false_eq_true, if_false] at h ⊢
    cases hm : isM t with
    | false => simp [hm] at h
    | true =>
      have := isM_iff.1 hm
      simp only [hm, if_true] at h
      rw [rep_len]
      split at h
      · omega
      · split at h
        · omega
        · omega
theorem expGo_next {l : List TokR} {k : Nat} (hk : k < l.length) (limit : Int) (out : List UInt8) (h : tokE l[k] out.length limit = 0) : expGo limit (l.drop k) out = expGo limit (l.drop (k + 1)) (tokX l[k] out) := by
  rw [List.drop_eq_getElem_cons hk, expGo, if_pos h]
theorem expGo_bad {l : List TokR} {k : Nat} (hk : k < l.length) (limit : Int) (out : List UInt8) (h : tokE l[k] out.length limit ≠ 0) : expGo limit (l.drop k) out = (tokE l[k] out.length limit, []) := by
  rw [List.drop_eq_getElem_cons hk, expGo, if_neg h]
theorem expGo_end {l : List TokR} {k : Nat} (hk : l.length ≤ k) (limit : Int) (out : List UInt8) : expGo limit (l.drop k) out = (0, out) := by
  rw [List.drop_eq_nil_of_le hk]; rfl
/-- Bytes as cells. -/
def bcs (l : List UInt8) : List Value := l.map fun b => Value.int .u8 b.toNat
theorem bcs_len (l : List UInt8) : (bcs l).length = l.length := by simp [bcs]
theorem bcs_snoc (l : List UInt8) (b : UInt8) : bcs (l ++ [b]) = bcs l ++ [Value.int .u8 b.toNat] := by simp [bcs]
theorem bcs_get (l : List UInt8) (i : Nat) (h : i < l.length) : (bcs l)[i]? = some (Value.int .u8 (l[i].toNat : Nat)) := by simp [bcs, h]
/-- Of how many bits a number is. -/
def blen (n : Nat) : Nat := if n = 0 then 0 else Nat.log2 n + 1
def litC (b : Nat) : Int := if b < 144 then 8 else 9
end Go.Proofs.YtlilmidffcmkjaaDoor
