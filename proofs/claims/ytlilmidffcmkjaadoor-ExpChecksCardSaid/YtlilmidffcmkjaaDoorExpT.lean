/- Expressions, plain: their plain text. No program in it. -/
import Derived.Test.YtlilmidffcmkjaaDoorExpC
namespace Go.Proofs.YtlilmidffcmkjaaDoor
open Go.RowKit
set_option linter.unusedVariables false
/-- A number's digits. -/
def decGo : Nat → Nat → List UInt8
  | 0, _ => []
  | f + 1, n => if n < 10 then [UInt8.ofNat (48 + n)] else decGo f (n / 10) ++ [UInt8.ofNat (48 + n % 10)]
def decB (n : Nat) : List UInt8 := decGo (n + 1) n
/-- A part's text, in brackets if it is looser than is asked for. -/
def partT (l : List ExpR) (tabs : List (List UInt8)) (i : Nat) (least : Nat) : List UInt8 :=
  if (l.getD i ⟨nilS, nilS, 0, 0, 0⟩).op = nilS ∨ least ≤ lvlOf (l.getD i ⟨nilS, nilS, 0, 0, 0⟩).op then tabs.getD i [] else [40] ++ tabs.getD i [] ++ [41]
def oneT (l : List ExpR) (tabs : List (List UInt8)) (x : ExpR) : List UInt8 :=
  if x.op ≠ nilS then partT l tabs x.l.toNat (lvlOf x.op) ++ ([32] ++ x.op.data.toList ++ [32]) ++ partT l tabs x.r.toNat (lvlOf x.op + 1)
  else if x.name ≠ nilS then x.name.data.toList
  else decB x.n
/-- The first k expressions' texts. -/
def tabT (l : List ExpR) : Nat → List (List UInt8)
  | 0 => []
  | k + 1 => tabT l k ++ [oneT l (tabT l k) (l.getD k ⟨nilS, nilS, 0, 0, 0⟩)]
theorem tabT_len (l : List ExpR) : ∀ k, (tabT l k).length = k
  | 0 => rfl
  | k + 1 => by rw [tabT, List.length_append, tabT_len l k]; rfl
/-- The i-th one's text. -/
def txt (l : List ExpR) (i : Nat) : List UInt8 := oneT l (tabT l i) (l.getD i ⟨nilS, nilS, 0, 0, 0⟩)
theorem tabT_get (l : List ExpR) : ∀ k i, i < k → (tabT l k).getD i [] = txt l i
  | 0, i, h => by omega
  | k + 1, i, h => by
    have hl := tabT_len l k
    rw [tabT, List.getD_eq_getElem?_getD]
    by_cases c : i < k
    · rw [List.getElem?_append_left (by omega), ← List.getD_eq_getElem?_getD]
      exact tabT_get l k i c
    · obtain rfl : i = k := by omega
      rw [List.getElem?_append_right (by omega), hl, Nat.sub_self]
      rfl
/-- A part's text. -/
def prt (l : List ExpR) (i : Nat) (least : Nat) : List UInt8 :=
  if (l.getD i ⟨nilS, nilS, 0, 0, 0⟩).op = nilS ∨ least ≤ lvlOf (l.getD i ⟨nilS, nilS, 0, 0, 0⟩).op then txt l i else [40] ++ txt l i ++ [41]
theorem partT_is (l : List ExpR) (k i least : Nat) (h : i < k) : partT l (tabT l k) i least = prt l i least := by
  unfold partT prt
  rw [tabT_get l k i h]
theorem txt_op {l : List ExpR} {i : Nat} {x : ExpR} (hx : l.getD i ⟨nilS, nilS, 0, 0, 0⟩ = x) (ho : x.op ≠ nilS) (hl : x.l.toNat < i) (hr : x.r.toNat < i) :
    txt l i = prt l x.l.toNat (lvlOf x.op) ++ ([32] ++ x.op.data.toList ++ [32]) ++ prt l x.r.toNat (lvlOf x.op + 1) := by
  unfold txt
  rw [hx, oneT, if_pos ho, partT_is l i _ _ hl, partT_is l i _ _ hr]
theorem txt_name {l : List ExpR} {i : Nat} {x : ExpR} (hx : l.getD i ⟨nilS, nilS, 0, 0, 0⟩ = x) (ho : x.op = nilS) (hn : x.name ≠ nilS) : txt l i = x.name.data.toList := by
  unfold txt
  rw [hx, oneT, if_neg (fun h => h ho), if_pos hn]
theorem txt_num {l : List ExpR} {i : Nat} {x : ExpR} (hx : l.getD i ⟨nilS, nilS, 0, 0, 0⟩ = x) (ho : x.op = nilS) (hn : x.name = nilS) : txt l i = decB x.n := by
  unfold txt
  rw [hx, oneT, if_neg (fun h => h ho), if_neg (fun h => h hn)]
theorem decGo_len : ∀ f n k, n < 10 ^ k → 1 ≤ k → (decGo f n).length ≤ k
  | 0, _, _, _, _ => Nat.zero_le _
  | f + 1, n, k, h, h1 => by
    rw [decGo]
    split
    · show 1 ≤ k; omega
    · rename_i c
      match k, h1 with
      | 1, _ => exact absurd h (by omega)
      | k + 2, _ =>
        have : n / 10 < 10 ^ (k + 1) := by
          rw [Nat.pow_succ] at h
          omega
        have := decGo_len f (n / 10) (k + 1) this (by omega)
        rw [List.length_append, List.length_singleton]
        omega
theorem decB_len {n : Nat} (h : n ≤ mostN) : (decB n).length ≤ 19 := decGo_len _ n 19 (Nat.lt_of_le_of_lt h (by decide)) (by decide)
theorem decGo_fuel : ∀ f g n, n < f → n < g → decGo f n = decGo g n
  | 0, _, _, h, _ => by omega
  | _ + 1, 0, _, _, h => by omega
  | f + 1, g + 1, n, hf, hg => by
    rw [decGo, decGo]
    split
    · rfl
    · rw [decGo_fuel f g (n / 10) (by omega) (by omega)]
theorem decB_small {n : Nat} (h : n < 10) : decB n = [UInt8.ofNat (48 + n)] := by rw [decB, decGo, if_pos h]
theorem decB_more {n : Nat} (h : ¬ n < 10) : decB n = decB (n / 10) ++ [UInt8.ofNat (48 + n % 10)] := by
  rw [decB, decGo, if_neg h, decB, decGo_fuel n (n / 10 + 1) (n / 10) (by omega) (by omega)]
theorem decB_ne (n : Nat) : decB n ≠ [] := by
  rw [decB, decGo]
  split
  · simp
  · simp
end Go.Proofs.YtlilmidffcmkjaaDoor
