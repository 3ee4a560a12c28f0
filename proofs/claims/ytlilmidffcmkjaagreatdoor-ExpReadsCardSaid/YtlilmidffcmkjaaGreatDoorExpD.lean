/- Expressions, plain: how many parts they have; how deep brackets stand. No program in it. -/
import Derived.Test.YtlilmidffcmkjaaGreatDoorExpR
namespace Go.Proofs.YtlilmidffcmkjaaGreatDoor
open Go.RowKit
set_option linter.unusedVariables false
/-- How deep it is behind a byte. -/
def brk (c : UInt8) (n : Int) : Int := if c = 41 then (if c = 40 then n + 1 else n) - 1 else (if c = 40 then n + 1 else n)
theorem brk_in (n : Int) : brk 40 n = n + 1 := rfl
theorem brk_out (n : Int) : brk 41 n = n - 1 := rfl
theorem brk_no {c : UInt8} (h1 : c ≠ 40) (h2 : c ≠ 41) (n : Int) : brk c n = n := by unfold brk; rw [if_neg h2, if_neg h1]
/-- How deep brackets stand in one another: so far, at most. -/
def dsc : List UInt8 → Int → Int → Int × Int
  | [], n, m => (n, m)
  | c :: r, n, m => dsc r (brk c n) (max m (brk c n))
theorem dsc_app : ∀ (x y : List UInt8) (n m : Int), dsc (x ++ y) n m = dsc y (dsc x n m).1 (dsc x n m).2
  | [], _, _, _ => rfl
  | c :: r, y, n, m => by rw [List.cons_append, dsc, dsc, dsc_app r y]
theorem dsc_plain : ∀ (x : List UInt8) (n m : Int), n ≤ m → (∀ c ∈ x, c ≠ 40 ∧ c ≠ 41) → dsc x n m = (n, m)
  | [], _, _, _, _ => rfl
  | c :: r, n, m, h, hx => by
    obtain ⟨h1, h2⟩ := hx c (by simp)
    rw [dsc, brk_no h1 h2, Int.max_eq_left h]
    exact dsc_plain r n m h fun c hc => hx c (by simp [hc])
theorem u8_ne {c : UInt8} {k : Nat} (hk : k < 256) (h : c.toNat ≠ k) : c ≠ UInt8.ofNat k := fun e => h (by rw [e, UInt8.toNat_ofNat']; omega)
theorem leaf_no (x : List UInt8) (h : ∀ j (hj : j < x.length), isWrd (x[j]'hj).toNat = true) : ∀ c ∈ x, c ≠ 40 ∧ c ≠ 41 := fun c hc => by
  obtain ⟨j, hj, rfl⟩ := List.getElem_of_mem hc
  have := h j hj
  constructor
  · intro e; rw [e] at this; exact absurd this (by decide)
  · intro e; rw [e] at this; exact absurd this (by decide)
theorem op_no {o : ByteArray} (h : 0 < lvlOf o) : ∀ c ∈ [32] ++ o.data.toList ++ [32], c ≠ 40 ∧ c ≠ 41 := by
  obtain ⟨p, hp, rfl, _⟩ := lvl_cases h
  simp only [sgnT, List.mem_cons, List.not_mem_nil, or_false] at hp
  rcases hp with rfl | rfl | rfl | rfl | rfl | rfl | rfl | rfl | rfl | rfl | rfl | rfl <;> decide
theorem wrap_dsc {x : List UInt8} {d : Nat} (h : ∀ n m : Int, n ≤ m → dsc x n m = (n, max m (n + d))) (c : Bool) (n m : Int) (hn : n ≤ m) :
    dsc (if c then x else [40] ++ x ++ [41]) n m = (n, max m (n + ((if c then d else d + 1 : Nat) : Int))) := by
  cases c with
  | true => exact h n m hn
  | false =>
    show dsc (40 :: (x ++ [41])) n m = _
    rw [dsc, brk_in, dsc_app, h _ _ (by omega), dsc]
    simp only
    rw [brk_out, dsc]
    simp only [Bool.false_eq_true, if_false]
    rw [show n + 1 - 1 = n by omega]
    congr 1
    omega
theorem txt_dsc : ∀ (t : Tr), t.ok → ∀ n m : Int, n ≤ m → dsc t.txt n m = (n, max m (n + (t.dp : Nat)))
  | .num k, h, n, m, hn => by
    have : dsc (decB k) n m = (n, m) := dsc_plain _ n m hn (leaf_no _ fun j hj => (wrd_dig (dec_dig (k + 1) k j hj)).1)
    show dsc (decB k) n m = (n, max m (n + ((0 : Nat) : Int)))
    rw [this]
    congr 1
    omega
  | .nam w, h, n, m, hn => by
    have hnm : nameB w = true := h
    unfold nameB at hnm
    simp only [Bool.and_eq_true, decide_eq_true_eq] at hnm
    obtain ⟨⟨⟨h1, h2⟩, h3⟩, h4⟩ := hnm
    have hz : w.data.toList.length = w.size := by simp
    have : dsc w.data.toList n m = (n, m) := dsc_plain _ n m hn (leaf_no _ fun j hj => by
      rw [list_bAt]
      exact runK_all (Nat.zero_le j) (by rw [show runK isWrd w 0 = w.size from h4]; omega))
    show dsc w.data.toList n m = (n, max m (n + ((0 : Nat) : Int)))
    rw [this]
    congr 1
    omega
  | .opr o a b, h, n, m, hn => by
    have ha := fun c => wrap_dsc (txt_dsc a h.2.1) c
    have hb := fun c => wrap_dsc (txt_dsc b h.2.2) c
    have e1 : (if lvlOf o ≤ a.top then a.txt else [40] ++ a.txt ++ [41]) = (if decide (lvlOf o ≤ a.top) then a.txt else [40] ++ a.txt ++ [41]) := by simp
    have e2 : (if lvlOf o + 1 ≤ b.top then b.txt else [40] ++ b.txt ++ [41]) = (if decide (lvlOf o + 1 ≤ b.top) then b.txt else [40] ++ b.txt ++ [41]) := by simp
    have e3 : (if lvlOf o ≤ a.top then a.dp else a.dp + 1) = (if decide (lvlOf o ≤ a.top) then a.dp else a.dp + 1) := by simp
    have e4 : (if lvlOf o + 1 ≤ b.top then b.dp else b.dp + 1) = (if decide (lvlOf o + 1 ≤ b.top) then b.dp else b.dp + 1) := by simp
    show dsc ((if lvlOf o ≤ a.top then a.txt else [40] ++ a.txt ++ [41]) ++ ([32] ++ o.data.toList ++ [32]) ++ (if lvlOf o + 1 ≤ b.top then b.txt else [40] ++ b.txt ++ [41])) n m = (n, max m (n + ((max (if lvlOf o ≤ a.top then a.dp else a.dp + 1) (if lvlOf o + 1 ≤ b.top then b.dp else b.dp + 1) : Nat) : Int)))
    rw [e1, e2, e3, e4]
    generalize decide (lvlOf o ≤ a.top) = c1
    generalize decide (lvlOf o + 1 ≤ b.top) = c2
    rw [dsc_app, dsc_app, ha c1 n m hn]
    simp only
    rw [dsc_plain _ n _ (by omega) (op_no h.1)]
    simp only
    rw [hb c2 n _ (by omega)]
    congr 1
    generalize (if c1 = true then a.dp else a.dp + 1) = d1
    generalize (if c2 = true then b.dp else b.dp + 1) = d2
    omega
/-- How deep brackets stand in a text. -/
def deepF (s : ByteArray) : Int := (dsc s.data.toList 0 0).2
theorem deep_txt {s : ByteArray} {t : Tr} (h : t.ok) (hs : s.data.toList = t.txt) : deepF s = t.dp := by
  unfold deepF
  rw [hs, txt_dsc t h 0 0 (Int.le_refl _)]
  show max 0 (0 + ((t.dp : Nat) : Int)) = _
  omega
/-- How many parts the first k have (at most a million). -/
def cntT (l : List ExpR) : Nat → List Nat
  | 0 => []
  | k + 1 => cntT l k ++ [if (l.getD k dfX).op ≠ nilS then min 1000000 (1 + (cntT l k).getD (l.getD k dfX).l.toNat 0 + (cntT l k).getD (l.getD k dfX).r.toNat 0) else 1]
theorem cntT_len (l : List ExpR) : ∀ k, (cntT l k).length = k
  | 0 => rfl
  | k + 1 => by rw [cntT, List.length_append, cntT_len l k]; rfl
theorem cnt_rep {l : List ExpR} : ∀ (k : Nat) (t : Tr) (i : Nat), i < k → Rep l t i → (cntT l k).getD i 0 = min 1000000 t.sz
  | 0, _, _, h, _ => by omega
  | k + 1, t, i, h, hr => by
    have hl := cntT_len l k
    rw [cntT, List.getD_eq_getElem?_getD]
    by_cases c : i < k
    · rw [List.getElem?_append_left (by omega), ← List.getD_eq_getElem?_getD]
      exact cnt_rep k t i c hr
    · obtain rfl : i = k := by omega
      rw [List.getElem?_append_right (by omega), hl, Nat.sub_self]
      show (if (l.getD i dfX).op ≠ nilS then _ else 1) = _
      match t, hr with
      | .num n, hr =>
        rw [if_neg (by rw [show l.getD i dfX = _ from hr]; exact fun e => e rfl)]
        rfl
      | .nam w, hr =>
        rw [if_neg (by rw [hr.2]; exact fun e => e rfl)]
        rfl
      | .opr o a b, hr =>
        obtain ⟨ho, p, q, hp, hq, e, ra, rb⟩ := hr
        rw [e, if_pos ho]
        show min 1000000 (1 + (cntT l i).getD (p : Int).toNat 0 + (cntT l i).getD (q : Int).toNat 0) = min 1000000 (a.sz + b.sz + 1)
        rw [Int.toNat_natCast, Int.toNat_natCast, cnt_rep i a p hp ra, cnt_rep i b q hq rb]
        omega
def partsF (l : List ExpR) (i : Nat) : Nat := (cntT l (i + 1)).getD i 0
theorem parts_rep {l : List ExpR} {t : Tr} {i : Nat} (h : Rep l t i) : partsF l i = min 1000000 t.sz := cnt_rep (i + 1) t i (Nat.lt_succ_self i) h
end Go.Proofs.YtlilmidffcmkjaaGreatDoor
