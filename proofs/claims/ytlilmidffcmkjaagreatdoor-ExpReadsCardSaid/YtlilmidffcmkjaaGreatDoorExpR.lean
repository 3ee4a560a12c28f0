/- Expressions, plain: a list's expression as a tree, its text, its worth; the list of what is read. No program in it. -/
import Derived.Test.YtlilmidffcmkjaaGreatDoorExpB
namespace Go.Proofs.YtlilmidffcmkjaaGreatDoor
open Go.RowKit
set_option linter.unusedVariables false
def dfX : ExpR := ⟨nilS, nilS, 0, 0, 0⟩
/-- This tree stands in a list at i. -/
def Rep (l : List ExpR) : Tr → Nat → Prop
  | .num n, i => l.getD i dfX = ⟨nilS, nilS, n, 0, 0⟩
  | .nam w, i => w ≠ nilS ∧ l.getD i dfX = ⟨nilS, w, 0, 0, 0⟩
  | .opr o a b, i => o ≠ nilS ∧ ∃ p q : Nat, p < i ∧ q < i ∧ l.getD i dfX = ⟨o, nilS, 0, p, q⟩ ∧ Rep l a p ∧ Rep l b q
theorem rep_op {l : List ExpR} : ∀ {t : Tr} {i : Nat}, Rep l t i → t.ok → ((l.getD i dfX).op = nilS ∧ t.top = 7) ∨ ((l.getD i dfX).op ≠ nilS ∧ lvlOf (l.getD i dfX).op = t.top)
  | .num n, i, h, _ => .inl ⟨by rw [show l.getD i dfX = _ from h], rfl⟩
  | .nam w, i, h, _ => .inl ⟨by rw [h.2], rfl⟩
  | .opr o a b, i, h, _ => by
    obtain ⟨ho, p, q, hp, hq, e, _, _⟩ := h
    rw [e]
    exact .inr ⟨ho, rfl⟩
theorem rep_prt {l : List ExpR} {t : Tr} {i m : Nat} (hm : m ≤ 7) (h : Rep l t i) (hk : t.ok) (ht : txt l i = t.txt) : prt l i m = t.wr m := by
  unfold prt Tr.wr
  rcases rep_op h hk with ⟨h1, h2⟩ | ⟨h1, h2⟩
  · rw [if_pos (.inl h1), if_pos (by omega), ht]
  · have h2' : lvlOf (l.getD i ⟨nilS, nilS, 0, 0, 0⟩).op = t.top := h2
    have h1' : ¬ (l.getD i ⟨nilS, nilS, 0, 0, 0⟩).op = nilS := h1
    rw [h2']
    by_cases c : m ≤ t.top
    · rw [if_pos (.inr c), if_pos c, ht]
    · rw [if_neg (fun e => e.elim h1' c), if_neg c, ht]
theorem rep_txt {l : List ExpR} : ∀ (t : Tr) (i : Nat), Rep l t i → t.ok → txt l i = t.txt
  | .num n, i, h, _ => by rw [txt_num (show l.getD i ⟨nilS, nilS, 0, 0, 0⟩ = _ from h) rfl rfl]; rfl
  | .nam w, i, h, _ => by rw [txt_name (show l.getD i ⟨nilS, nilS, 0, 0, 0⟩ = _ from h.2) rfl h.1]; rfl
  | .opr o a b, i, h, hk => by
    obtain ⟨ho, p, q, hp, hq, e, ra, rb⟩ := h
    have h6 := lvl_le o
    rw [txt_op (show l.getD i ⟨nilS, nilS, 0, 0, 0⟩ = _ from e) ho (by show (p : Int).toNat < i; omega) (by show (q : Int).toNat < i; omega)]
    show prt l (p : Int).toNat (lvlOf o) ++ _ ++ prt l (q : Int).toNat (lvlOf o + 1) = a.wr (lvlOf o) ++ _ ++ b.wr (lvlOf o + 1)
    rw [Int.toNat_natCast, Int.toNat_natCast, rep_prt (by omega) ra hk.2.1 (rep_txt a p ra hk.2.1), rep_prt (by omega) rb hk.2.2 (rep_txt b q rb hk.2.2)]
theorem rep_ev {l : List ExpR} (names : List BindR) : ∀ (t : Tr) (i : Nat), Rep l t i → wrt l names i = t.ev names
  | .num n, i, h => by
    unfold wrt
    rw [show l.getD i ⟨nilS, nilS, 0, 0, 0⟩ = _ from h]
    unfold oneW
    rw [if_neg (fun e => e rfl), if_pos rfl]
    rfl
  | .nam w, i, h => by
    unfold wrt
    rw [show l.getD i ⟨nilS, nilS, 0, 0, 0⟩ = _ from h.2]
    unfold oneW
    rw [if_pos h.1]
    rfl
  | .opr o a b, i, h => by
    obtain ⟨ho, p, q, hp, hq, e, ra, rb⟩ := h
    unfold wrt
    rw [show l.getD i ⟨nilS, nilS, 0, 0, 0⟩ = _ from e]
    unfold oneW
    simp only [Int.toNat_natCast]
    rw [tabW_get l names i p hp, tabW_get l names i q hq, rep_ev names a p ra, rep_ev names b q rb]
    rw [if_neg (fun e => e rfl), if_neg ho]
    rfl
/-- Each expression of a list that may be is a tree. -/
theorem rep_of {l : List ExpR} (hc : checkB l = true) : ∀ (i : Nat), i < l.length → ∃ t : Tr, t.ok ∧ Rep l t i := fun i => by
  induction i using Nat.strongRecOn with
  | ind i ih =>
    intro hi
    have hit := check_item hc hi
    have hg : l.getD i dfX = l[i] := by rw [List.getD_eq_getElem?_getD, List.getElem?_eq_getElem hi]; rfl
    obtain ⟨⟨o, w, n, a, b⟩, hx⟩ : ∃ x, l[i] = x := ⟨_, rfl⟩
    rw [hx] at hit hg
    unfold itemB at hit
    rw [Bool.or_eq_true] at hit
    rcases hit with h | h
    · unfold leafB at h
      simp only [Bool.and_eq_true, Bool.or_eq_true, decide_eq_true_eq] at h
      obtain ⟨⟨⟨h1, h2⟩, h3⟩, h4 | h4⟩ := h
      · obtain ⟨h4, h5⟩ := h4
        subst h1 h2 h3 h4
        exact ⟨.num n, h5, hg⟩
      · obtain ⟨h4, h5⟩ := h4
        subst h1 h2 h3 h4
        refine ⟨.nam w, h5, fun e => ?_, hg⟩
        subst e
        exact absurd h5 (by decide)
    · unfold operB at h
      simp only [Bool.and_eq_true, decide_eq_true_eq] at h
      obtain ⟨⟨⟨⟨⟨⟨h1, h2⟩, h3⟩, h4⟩, h5⟩, h6⟩, h7⟩ := h
      obtain ⟨p, rfl⟩ := Int.eq_ofNat_of_zero_le h4
      obtain ⟨q, rfl⟩ := Int.eq_ofNat_of_zero_le h6
      subst h2 h3
      obtain ⟨ta, ka, ra⟩ := ih p (by omega) (by omega)
      obtain ⟨tb, kb, rb⟩ := ih q (by omega) (by omega)
      refine ⟨.opr o ta tb, ⟨h1, ka, kb⟩, fun e => ?_, p, q, by omega, by omega, hg, ra, rb⟩
      subst e
      exact absurd h1 (by decide)
theorem getD_mid {a b c : List ExpR} {i : Nat} (h : a.length ≤ i) (h2 : i < a.length + b.length) : (a ++ b ++ c).getD i dfX = b.getD (i - a.length) dfX := by
  rw [List.getD_eq_getElem?_getD, List.getD_eq_getElem?_getD, List.getElem?_append_left (by rw [List.length_append]; omega), List.getElem?_append_right h]
/-- What is read stands there as its tree. -/
theorem flat_rep : ∀ (t : Tr) (a c : List ExpR), t.ok → Rep (a ++ t.flat a.length ++ c) t (a.length + t.sz - 1)
  | .num n, a, c, h => by
    show (a ++ [_] ++ c).getD (a.length + 1 - 1) dfX = _
    rw [getD_mid (by omega) (by simp)]
    rw [show a.length + 1 - 1 - a.length = 0 by omega]
    rfl
  | .nam w, a, c, h => by
    refine ⟨fun e => ?_, ?_⟩
    · subst e
      exact absurd (show nameB nilS = true from h) (by decide)
    · show (a ++ [_] ++ c).getD (a.length + 1 - 1) dfX = _
      rw [getD_mid (by omega) (by simp)]
      rw [show a.length + 1 - 1 - a.length = 0 by omega]
      rfl
  | .opr o x y, a, c, h => by
    have hx := x.sz_pos
    have hy := y.sz_pos
    have fx := x.flat_len a.length
    have fy := y.flat_len (a.length + x.sz)
    have e : (Tr.opr o x y).flat a.length = x.flat a.length ++ y.flat (a.length + x.sz) ++ [⟨o, nilS, 0, ((a.length + x.sz - 1 : Nat) : Int), ((a.length + x.sz + y.sz - 1 : Nat) : Int)⟩] := rfl
    refine ⟨fun e => ?_, a.length + x.sz - 1, a.length + x.sz + y.sz - 1, ?_, ?_, ?_, ?_, ?_⟩
    · subst e
      exact absurd h.1 (by decide)
    · show _ < a.length + (x.sz + y.sz + 1) - 1; omega
    · show _ < a.length + (x.sz + y.sz + 1) - 1; omega
    · rw [getD_mid (by show _ ≤ a.length + (x.sz + y.sz + 1) - 1; omega) (by rw [Tr.flat_len]; have : (Tr.opr o x y).sz = x.sz + y.sz + 1 := rfl; omega), e]
      rw [show a.length + (Tr.opr o x y).sz - 1 - a.length = x.sz + y.sz by have : (Tr.opr o x y).sz = x.sz + y.sz + 1 := rfl; omega]
      rw [List.getD_eq_getElem?_getD, List.getElem?_append_right (by rw [List.length_append, fx, fy]; exact Nat.le_refl _), List.length_append, fx, fy, Nat.sub_self]
      rfl
    · rw [e]
      have := flat_rep x a (y.flat (a.length + x.sz) ++ [⟨o, nilS, 0, ((a.length + x.sz - 1 : Nat) : Int), ((a.length + x.sz + y.sz - 1 : Nat) : Int)⟩] ++ c) h.2.1
      simp only [List.append_assoc] at this ⊢
      exact this
    · rw [e]
      have := flat_rep y (a ++ x.flat a.length) ([⟨o, nilS, 0, ((a.length + x.sz - 1 : Nat) : Int), ((a.length + x.sz + y.sz - 1 : Nat) : Int)⟩] ++ c) h.2.2
      rw [List.length_append, fx] at this
      simp only [List.append_assoc] at this ⊢
      exact this
theorem flat_ok : ∀ (t : Tr) (k : Nat), t.ok → allGo (t.flat k) k = true
  | .num n, k, h => by
    unfold Tr.ok at h
    have : leafB ⟨nilS, nilS, n, 0, 0⟩ = true := by
      unfold leafB
      simp only [decide_true, Bool.true_and]
      rw [decide_eq_true h]
      rfl
    show (itemB _ _ && true) = true
    rw [Bool.and_true]
    unfold itemB
    rw [this]
    rfl
  | .nam w, k, h => by
    unfold Tr.ok at h
    have : leafB ⟨nilS, w, 0, 0, 0⟩ = true := by
      unfold leafB
      simp only [decide_true, Bool.true_and]
      rw [h, Bool.or_true]
    show (itemB _ _ && true) = true
    rw [Bool.and_true]
    unfold itemB
    rw [this]
    rfl
  | .opr o x y, k, h => by
    have hx := x.sz_pos
    have hy := y.sz_pos
    have app : ∀ (a b : List ExpR) (k : Nat), allGo (a ++ b) k = (allGo a k && allGo b (k + a.length)) := fun a => by
      induction a with
      | nil => intro b k; simp [allGo]
      | cons z a ih =>
        intro b k
        rw [List.cons_append, allGo, allGo, ih, List.length_cons, show k + 1 + a.length = k + (a.length + 1) by omega, Bool.and_assoc]
    show allGo (x.flat k ++ y.flat (k + x.sz) ++ [_]) k = true
    rw [app, app, flat_ok x k h.2.1, Tr.flat_len, flat_ok y (k + x.sz) h.2.2, List.length_append, Tr.flat_len, Tr.flat_len]
    have hO : operB ⟨o, nilS, 0, ((k + x.sz - 1 : Nat) : Int), ((k + x.sz + y.sz - 1 : Nat) : Int)⟩ (k + (x.sz + y.sz)) = true := by
      unfold operB
      simp only [Bool.and_eq_true, decide_eq_true_eq]
      exact ⟨⟨⟨⟨⟨⟨h.1, trivial⟩, trivial⟩, by omega⟩, by omega⟩, by omega⟩, by omega⟩
    show (true && true && (itemB _ _ && true)) = true
    unfold itemB
    rw [hO, Bool.or_true]
    rfl
theorem flat_check {t : Tr} (h : t.ok) (hz : t.sz ≤ 400) : checkB (t.flat 0) = true := by
  unfold checkB
  rw [Tr.flat_len, flat_ok t 0 h, decide_eq_true hz]
  rfl
/-- A text that is read is of the same expression. -/
theorem back_plain {l : List ExpR} (hc : checkB l = true) {i : Nat} (hi : i < l.length) {s : ByteArray} (hs : s.data.toList = txt l i) : ∃ t : Tr, t.ok ∧ Rep l t i ∧
    ((t.sz ≤ 400 ∧ t.dp ≤ 20 ∧ ∃ m, parseF s = some m ∧ m.length = t.sz ∧ checkB m = true ∧ txt m (m.length - 1) = txt l i ∧ ∀ names, wrt m names (m.length - 1) = wrt l names i) ∨ (¬ (t.sz ≤ 400 ∧ t.dp ≤ 20) ∧ parseF s = none)) := by
  obtain ⟨t, hk, hr⟩ := rep_of hc i hi
  have ht := rep_txt t i hr hk
  have hp := tr_parse hk (hs.trans ht)
  refine ⟨t, hk, hr, ?_⟩
  by_cases c : t.sz ≤ 400 ∧ t.dp ≤ 20
  · rw [if_pos c] at hp
    have hm := flat_rep t [] [] hk
    simp only [List.nil_append, List.append_nil, List.length_nil, Nat.zero_add] at hm
    refine .inl ⟨c.1, c.2, t.flat 0, hp, Tr.flat_len t 0, flat_check hk c.1, ?_, fun names => ?_⟩
    · rw [Tr.flat_len, rep_txt t _ hm hk, ht]
    · rw [Tr.flat_len, rep_ev names t _ hm, rep_ev names t i hr]
  · rw [if_neg c] at hp
    exact .inr ⟨c, hp⟩
end Go.Proofs.YtlilmidffcmkjaaGreatDoor
