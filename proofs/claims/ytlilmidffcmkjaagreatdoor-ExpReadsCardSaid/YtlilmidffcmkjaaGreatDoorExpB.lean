/- Expressions, plain: a plain text is read as the expression that it is of. No program in it. -/
import Derived.Test.YtlilmidffcmkjaaGreatDoorPlnE
namespace Go.Proofs.YtlilmidffcmkjaaGreatDoor
open Go.RowKit
set_option linter.unusedVariables false
/-- An expression, as a tree. -/
inductive Tr where
  | num (n : Nat)
  | nam (w : ByteArray)
  | opr (o : ByteArray) (a b : Tr)
def Tr.ok : Tr → Prop
  | .num n => n ≤ mostN
  | .nam w => nameB w = true
  | .opr o a b => 0 < lvlOf o ∧ a.ok ∧ b.ok
def Tr.sz : Tr → Nat
  | .opr _ a b => a.sz + b.sz + 1
  | _ => 1
def Tr.top : Tr → Nat
  | .opr o _ _ => lvlOf o
  | _ => 7
def Tr.txt : Tr → List UInt8
  | .num n => decB n
  | .nam w => w.data.toList
  | .opr o a b => (if lvlOf o ≤ a.top then a.txt else [40] ++ a.txt ++ [41]) ++ ([32] ++ o.data.toList ++ [32]) ++ (if lvlOf o + 1 ≤ b.top then b.txt else [40] ++ b.txt ++ [41])
def Tr.dp : Tr → Nat
  | .opr o a b => max (if lvlOf o ≤ a.top then a.dp else a.dp + 1) (if lvlOf o + 1 ≤ b.top then b.dp else b.dp + 1)
  | _ => 0
def Tr.flat : Tr → Nat → List ExpR
  | .num n, _ => [⟨nilS, nilS, n, 0, 0⟩]
  | .nam w, _ => [⟨nilS, w, 0, 0, 0⟩]
  | .opr o a b, k => a.flat k ++ b.flat (k + a.sz) ++ [⟨o, nilS, 0, ((k + a.sz - 1 : Nat) : Int), ((k + a.sz + b.sz - 1 : Nat) : Int)⟩]
def Tr.ev (names : List BindR) : Tr → Nat × Int
  | .num n => (n, 0)
  | .nam w => findR names w
  | .opr o a b => if (a.ev names).2 ≠ 0 then (0, (a.ev names).2) else if (b.ev names).2 ≠ 0 then (0, (b.ev names).2) else match applyO o (a.ev names).1 (b.ev names).1 with | some n => (n, 0) | none => (0, 3)
/-- With brackets, if it is looser than is asked for. -/
def Tr.wr (m : Nat) (t : Tr) : List UInt8 := if m ≤ t.top then t.txt else [40] ++ t.txt ++ [41]
def Tr.wd (m : Nat) (t : Tr) : Nat := if m ≤ t.top then t.dp else t.dp + 1
theorem Tr.sz_pos : ∀ t : Tr, 1 ≤ t.sz
  | .num _ => Nat.le_refl _
  | .nam _ => Nat.le_refl _
  | .opr _ a b => by show 1 ≤ a.sz + b.sz + 1; omega
theorem Tr.flat_len : ∀ (t : Tr) (k : Nat), (t.flat k).length = t.sz
  | .num _, _ => rfl
  | .nam _, _ => rfl
  | .opr o a b, k => by
    show (a.flat k ++ b.flat (k + a.sz) ++ [_]).length = a.sz + b.sz + 1
    rw [List.length_append, List.length_append, Tr.flat_len a, Tr.flat_len b]
    rfl
theorem lvl_le (o : ByteArray) : lvlOf o ≤ 6 := by
  have key : ∀ T : List (List UInt8 × Nat), (∀ p ∈ T, p.2 ≤ 6) → lvlGo T o ≤ 6 := by
    intro T
    induction T with
    | nil => intro _; exact Nat.zero_le _
    | cons p r ih =>
      intro h
      rw [lvlGo]
      split
      · exact h p (by simp)
      · exact ih fun q hq => h q (by simp [hq])
  exact key sgnT (by decide)
/-- An operator is one of the table. -/
theorem lvl_cases {o : ByteArray} (h : 0 < lvlOf o) : ∃ p ∈ sgnT, o = ⟨p.1.toArray⟩ ∧ lvlOf o = p.2 := by
  have key : ∀ T : List (List UInt8 × Nat), 0 < lvlGo T o → ∃ p ∈ T, o = ⟨p.1.toArray⟩ ∧ lvlGo T o = p.2 := by
    intro T
    induction T with
    | nil => intro h; cases h
    | cons p r ih =>
      intro h
      rw [lvlGo] at h ⊢
      split
      · rename_i c; exact ⟨p, by simp, c, rfl⟩
      · rename_i c
        rw [if_neg c] at h
        obtain ⟨q, hq, h1, h2⟩ := ih h
        exact ⟨q, by simp [hq], h1, h2⟩
  exact key sgnT h
/-- These bytes stand at k. -/
def StandsAt (s : ByteArray) (k : Nat) (x : List UInt8) : Prop := ∀ j (h : j < x.length), bAt s (k + j) = (x[j]'h).toNat
theorem StandsAt.left {s : ByteArray} {k : Nat} {x y : List UInt8} (h : StandsAt s k (x ++ y)) : StandsAt s k x := fun j hj => by
  rw [h j (by rw [List.length_append]; omega), List.getElem_append_left hj]
theorem StandsAt.right {s : ByteArray} {k : Nat} {x y : List UInt8} (h : StandsAt s k (x ++ y)) : StandsAt s (k + x.length) y := fun j hj => by
  rw [Nat.add_assoc, h (x.length + j) (by rw [List.length_append]; omega), List.getElem_append_right (by omega)]
  congr 2
  omega
theorem StandsAt.le {s : ByteArray} {k : Nat} {x : List UInt8} (h : StandsAt s k x) (hx : 0 < x.length) : k + x.length ≤ s.size := by
  have h1 := h (x.length - 1) (by omega)
  have : bAt s (k + (x.length - 1)) ≠ 256 := by
    rw [h1]
    have := (x[x.length - 1]'(by omega)).toNat_lt
    omega
  have := bAt_lt this
  omega
theorem StandsAt.head {s : ByteArray} {k : Nat} {c : UInt8} {x : List UInt8} (h : StandsAt s k (c :: x)) : bAt s k = c.toNat := h 0 (by simp)
theorem StandsAt.text {s : ByteArray} {k : Nat} {x : List UInt8} (h : StandsAt s k x) (hk : k + x.length ≤ s.size) : s.extract k (k + x.length) = ⟨x.toArray⟩ := by
  apply ByteArray.ext
  apply Array.ext
  · have hd : s.data.size = s.size := rfl
    simp [ByteArray.data_extract]
    omega
  · intro i h1 h2
    have hi : i < x.length := by simpa using h2
    have := h i hi
    rw [bAt_in (by omega)] at this
    have e : s[k + i]'(by omega) = x[i] := UInt8.toNat_inj.1 this
    have e2 : s.data[k + i]'(show k + i < s.size by omega) = x[i] := e
    simp [ByteArray.data_extract, e2]
/-- Digits. -/
theorem dec_dig : ∀ (f n : Nat) (j : Nat) (h : j < (decGo f n).length), 48 ≤ ((decGo f n)[j]'h).toNat ∧ ((decGo f n)[j]'h).toNat ≤ 57
  | 0, n, j, h => by simp [decGo] at h
  | f + 1, n, j, h => by
    have key : ∀ c : Nat, c < 10 → 48 ≤ (UInt8.ofNat (48 + c)).toNat ∧ (UInt8.ofNat (48 + c)).toNat ≤ 57 := fun c hc => by
      rw [UInt8.toNat_ofNat']
      omega
    rw [decGo] at h
    split at h
    · rename_i c
      have e : decGo (f + 1) n = [UInt8.ofNat (48 + n)] := by rw [decGo, if_pos c]
      have hj : j = 0 := by simpa using h
      subst hj
      simp only [e]
      exact key n c
    · rename_i c
      have e : decGo (f + 1) n = decGo f (n / 10) ++ [UInt8.ofNat (48 + n % 10)] := by rw [decGo, if_neg c]
      simp only [e]
      by_cases hj : j < (decGo f (n / 10)).length
      · rw [List.getElem_append_left hj]
        exact dec_dig f (n / 10) j hj
      · rw [List.getElem_append_right (by omega)]
        simp only [List.length_append, List.length_singleton] at h
        simp only [List.getElem_singleton]
        exact key (n % 10) (by omega)
theorem digV_dig {c : Nat} (h : 48 ≤ c ∧ c ≤ 57) : digV c = c - 48 := by
  unfold digV isDig
  rw [if_pos (by simp; omega)]
theorem wrd_dig {c : Nat} (h : 48 ≤ c ∧ c ≤ 57) : isWrd c = true ∧ isLet c = false := by
  have h1 : isDig c = true := by unfold isDig; simp; omega
  have h2 : isLet c = false := by unfold isLet; simp; omega
  exact ⟨by unfold isWrd; rw [h1, h2]; rfl, h2⟩
theorem val_app (s : ByteArray) (b : Nat) : ∀ (x y k a : Nat), valGo s b (x + y) k a = match valGo s b x k a with | some v => valGo s b y (k + x) v | none => none
  | 0, y, k, a => by rw [Nat.zero_add, valGo, Nat.add_zero]
  | x + 1, y, k, a => by
    rw [show x + 1 + y = (x + y) + 1 by omega, valGo, valGo]
    split
    · rw [val_app s b x y (k + 1), show k + 1 + x = k + (x + 1) by omega]
    · rfl
theorem val_dec (s : ByteArray) : ∀ (f n k : Nat), n < f → StandsAt s k (decGo f n) → valGo s 10 (decGo f n).length k 0 = some n
  | 0, n, k, h, _ => by omega
  | f + 1, n, k, h, hs => by
    by_cases c : n < 10
    · have e : decGo (f + 1) n = [UInt8.ofNat (48 + n)] := by rw [decGo, if_pos c]
      rw [e] at hs ⊢
      have h1 := hs.head
      have h2 : (UInt8.ofNat (48 + n)).toNat = 48 + n := by rw [UInt8.toNat_ofNat']; omega
      show valGo s 10 1 k 0 = some n
      rw [valGo, h1, h2, digV_dig (by omega), if_pos (by omega), valGo]
      congr 1
      omega
    · have e : decGo (f + 1) n = decGo f (n / 10) ++ [UInt8.ofNat (48 + n % 10)] := by rw [decGo, if_neg c]
      rw [e] at hs ⊢
      have h1 := hs.right.head
      have h2 : (UInt8.ofNat (48 + n % 10)).toNat = 48 + n % 10 := by rw [UInt8.toNat_ofNat']; omega
      rw [List.length_append, List.length_singleton, val_app, val_dec s f (n / 10) k (by omega) hs.left]
      simp only
      rw [valGo, h1, h2, digV_dig (by omega), if_pos (by omega), valGo]
      congr 1
      omega
theorem wordK_at {s : ByteArray} {k : Nat} {x : List UInt8} (h : StandsAt s k x) (hw : ∀ j (hj : j < x.length), isWrd (x[j]'hj).toNat = true) (he : isWrd (bAt s (k + x.length)) = false) : wordK s k = k + x.length :=
  runK_is (by decide) (by omega) he fun i h1 h2 => by
    obtain ⟨j, rfl⟩ : ∃ j, i = k + j := ⟨i - k, by omega⟩
    rw [h j (by omega)]
    exact hw j (by omega)
theorem leaf_num {s : ByteArray} {k n : Nat} (hn : n ≤ mostN) (h : StandsAt s k (decB n)) (he : isWrd (bAt s (k + (decB n).length)) = false) :
    leafX s k (wordK s k) = some ⟨nilS, nilS, n, 0, 0⟩ ∧ wordK s k = k + (decB n).length ∧ isWrd (bAt s k) = true := by
  have hd : ∀ j (hj : j < (decB n).length), 48 ≤ ((decB n)[j]'hj).toNat ∧ ((decB n)[j]'hj).toNat ≤ 57 := fun j hj => dec_dig (n + 1) n j hj
  have hw := wordK_at h (fun j hj => (wrd_dig (hd j hj)).1) he
  have hpos : 0 < (decB n).length := List.length_pos_iff.2 (decB_ne n)
  have h0 := h 0 hpos
  rw [Nat.add_zero] at h0
  have hd0 := hd 0 hpos
  rw [← h0] at hd0
  have hx : hexB s k = false := by
    unfold hexB
    have : bAt s (k + 1) ≠ 120 := fun e => by
      by_cases c : 1 < (decB n).length
      · have := hd 1 c
        rw [← h 1 c, e] at this
        omega
      · have : (decB n).length = 1 := by omega
        rw [this, e] at he
        exact absurd he (by decide)
    rw [decide_eq_false this, Bool.and_false]
  refine ⟨?_, hw, (wrd_dig hd0).1⟩
  unfold leafX numK digN
  rw [(wrd_dig hd0).2, hx, hw, if_neg (by decide), if_neg (by decide), if_pos (by omega), Nat.add_sub_cancel_left]
  have hv : valGo s 10 (decB n).length k 0 = some n := val_dec s (n + 1) n k (by omega) h
  rw [hv]
  simp only
  rw [if_pos hn]
theorem list_bAt (w : ByteArray) (j : Nat) (h : j < w.data.toList.length) : (w.data.toList[j]'h).toNat = bAt w j := by
  rw [bAt_in (by simpa using h)]
  simp
  rfl
theorem leaf_name {s : ByteArray} {k : Nat} {w : ByteArray} (hn : nameB w = true) (h : StandsAt s k w.data.toList) (he : isWrd (bAt s (k + w.data.toList.length)) = false) :
    leafX s k (wordK s k) = some ⟨nilS, w, 0, 0, 0⟩ ∧ wordK s k = k + w.data.toList.length ∧ isWrd (bAt s k) = true := by
  unfold nameB at hn
  simp only [Bool.and_eq_true, decide_eq_true_eq] at hn
  obtain ⟨⟨⟨h1, h2⟩, h3⟩, h4⟩ := hn
  have hz : w.data.toList.length = w.size := by simp
  have hall : ∀ j (hj : j < w.data.toList.length), isWrd (w.data.toList[j]'hj).toNat = true := fun j hj => by
    rw [list_bAt]
    exact runK_all (Nat.zero_le j) (by rw [show runK isWrd w 0 = w.size from h4]; omega)
  have hw := wordK_at h hall he
  have h0 := h 0 (by omega)
  rw [Nat.add_zero, list_bAt] at h0
  have hle := h.le (by omega)
  have ht := h.text hle
  have hx : (⟨w.data.toList.toArray⟩ : ByteArray) = w := by
    obtain ⟨a⟩ := w
    simp
  refine ⟨?_, hw, by rw [h0]; unfold isWrd; rw [h3]; rfl⟩
  unfold leafX
  rw [h0, h3, if_pos rfl, hw, if_pos (by omega), ht, hx]
/-- An operator between blanks. -/
theorem op_at {s : ByteArray} {k : Nat} {o : ByteArray} (ho : 0 < lvlOf o) (h : StandsAt s k (o.data.toList ++ [32])) : opK s k = (lvlOf o, o.size) ∧ s.extract k (k + o.size) = o ∧ isBlk (bAt s k) = false ∧ isWrd (bAt s k) = false := by
  have hz : o.data.toList.length = o.size := by simp
  have hx : (⟨o.data.toList.toArray⟩ : ByteArray) = o := by
    obtain ⟨a⟩ := o
    simp
  have hle := h.le (by simp)
  have ht := h.left.text (by rw [List.length_append] at hle; omega)
  rw [hz, hx] at ht
  obtain ⟨p, hp, rfl, hl⟩ := lvl_cases ho
  refine ⟨?_, ht, ?_⟩
  · rw [hl]
    have e0 := h 0 (by simp)
    rw [Nat.add_zero] at e0
    have e1 : ∀ hh, bAt s (k + 1) = ((p.1 ++ [32])[1]'hh).toNat := fun hh => h 1 hh
    simp only [sgnT, List.mem_cons, List.not_mem_nil, or_false] at hp
    rcases hp with rfl | rfl | rfl | rfl | rfl | rfl | rfl | rfl | rfl | rfl | rfl | rfl <;>
      (have e1 := e1 (by decide); unfold opK; rw [e0, e1]; rfl)
  · have e0 := h 0 (by simp)
    rw [Nat.add_zero] at e0
    simp only [sgnT, List.mem_cons, List.not_mem_nil, or_false] at hp
    rcases hp with rfl | rfl | rfl | rfl | rfl | rfl | rfl | rfl | rfl | rfl | rfl | rfl <;>
      (rw [e0]; decide)
theorem top_le : ∀ t : Tr, t.top ≤ 7
  | .num _ => Nat.le_refl _
  | .nam _ => Nat.le_refl _
  | .opr o _ _ => Nat.le_trans (lvl_le o) (by decide)
/-- A text's first byte is no blank. -/
theorem txt_head : ∀ (t : Tr), t.ok → ∃ c r, t.txt = c :: r ∧ isBlk c.toNat = false
  | .num n, _ => by
    have hp : 0 < (decB n).length := List.length_pos_iff.2 (decB_ne n)
    have hd := dec_dig (n + 1) n 0 hp
    cases e : decB n with
    | nil => exact absurd e (decB_ne n)
    | cons c r =>
      refine ⟨c, r, e, ?_⟩
      have hc : (decGo (n + 1) n)[0]'hp = c := by
        have : decGo (n + 1) n = c :: r := e
        simp [this]
      rw [hc] at hd
      unfold isBlk
      simp
      omega
  | .nam w, h => by
    have hn : nameB w = true := h
    unfold nameB at hn
    simp only [Bool.and_eq_true, decide_eq_true_eq] at hn
    obtain ⟨⟨⟨h1, _⟩, h3⟩, _⟩ := hn
    have hz : w.data.toList.length = w.size := by simp
    have h0 := list_bAt w 0 (by omega)
    cases e : w.data.toList with
    | nil => rw [e] at hz; simp at hz; omega
    | cons c r =>
      refine ⟨c, r, e, ?_⟩
      have hc : w.data.toList[0]'(by omega) = c := by simp [e]
      rw [hc] at h0
      rw [← h0] at h3
      unfold isLet at h3
      unfold isBlk
      simp at h3 ⊢
      omega
  | .opr o a b, h => by
    obtain ⟨c, r, e, hb⟩ := txt_head a h.2.1
    show ∃ c' r', (if lvlOf o ≤ a.top then a.txt else [40] ++ a.txt ++ [41]) ++ ([32] ++ o.data.toList ++ [32]) ++ _ = c' :: r' ∧ _
    split
    · rw [e]
      exact ⟨c, _, rfl, hb⟩
    · exact ⟨40, _, rfl, by decide⟩
theorem wr_head {t : Tr} (h : t.ok) (m : Nat) : ∃ c r, t.wr m = c :: r ∧ isBlk c.toNat = false := by
  unfold Tr.wr
  split
  · exact txt_head t h
  · exact ⟨40, _, rfl, by decide⟩
theorem skip_one {s : ByteArray} {k : Nat} (h : bAt s k = 32) (h2 : isBlk (bAt s (k + 1)) = false) : skipK s k = k + 1 :=
  runK_is (by decide) (by omega) h2 fun i h1 h3 => by
    obtain rfl : i = k := by omega
    rw [h]; decide
/-- What is said of reading a text of this tree. -/
def Reads (s : ByteArray) (t : Tr) (m : Nat) : Prop := ∀ (least k deep : Nat) (L : List ExpR), deep ≤ 20 → 1 ≤ least → least ≤ m → StandsAt s k (t.wr m) → isWrd (bAt s (k + (t.wr m).length)) = false → (opK s (skipK s (k + (t.wr m).length))).1 ≤ m →
  ex s least k deep L = if L.length + t.sz ≤ 400 ∧ deep + t.wd m ≤ 20 then lp s least (L.length + t.sz - 1) (k + (t.wr m).length) deep (L ++ t.flat L.length) else none
theorem reads_leaf {s : ByteArray} {t : Tr} {x : ExpR} (h1 : t.top = 7) (h2 : t.dp = 0) (h3 : t.sz = 1) (h4 : ∀ k, t.flat k = [x])
    (hx : ∀ k, StandsAt s k t.txt → isWrd (bAt s (k + t.txt.length)) = false → leafX s k (wordK s k) = some x ∧ wordK s k = k + t.txt.length ∧ isWrd (bAt s k) = true) {m : Nat} (hm : m ≤ 7) : Reads s t m := fun least k deep L hdp hl hlm hs he ho => by
  have hw : t.wr m = t.txt := by unfold Tr.wr; rw [if_pos (by omega)]
  have hd : t.wd m = 0 := by unfold Tr.wd; rw [if_pos (by omega), h2]
  rw [hw] at hs he ho ⊢
  rw [hd, h3, h4]
  obtain ⟨a1, a2, a3⟩ := hx k hs he
  have hsk : skipK s k = k := runK_stop (by
    cases hb : isBlk (bAt s k) with
    | false => rfl
    | true =>
      exfalso
      unfold isBlk at hb
      simp at hb
      rcases hb with (hb | hb) | hb <;> (rw [hb] at a3; exact absurd a3 (by decide)))
  have h40 : bAt s k ≠ 40 := fun e => by rw [e] at a3; exact absurd a3 (by decide)
  rw [ex_eq, hsk]
  have hop : opdW s (ex s) k deep L = if L.length < 400 then some (L.length, k + t.txt.length, L ++ [x]) else none := by
    unfold opdW
    rw [if_neg h40, a1]
    simp only
    rw [a2]
  rw [hop]
  by_cases c : L.length < 400
  · rw [if_pos c, if_pos (by omega)]
    rfl
  · rw [if_neg c, if_neg (by omega)]
theorem reads_par {s : ByteArray} {t : Tr} (h : Reads s t 1) (h1 : 1 ≤ t.top) {m : Nat} (hm : ¬ m ≤ t.top) : Reads s t m := fun least k deep L hdp hl hlm hs he ho => by
  have hw : t.wr m = [40] ++ t.txt ++ [41] := by unfold Tr.wr; rw [if_neg hm]
  have hw1 : t.wr 1 = t.txt := by unfold Tr.wr; rw [if_pos h1]
  have hd : t.wd m = t.dp + 1 := by unfold Tr.wd; rw [if_neg hm]
  have hd1 : t.wd 1 = t.dp := by unfold Tr.wd; rw [if_pos h1]
  have hlen : ([40] ++ t.txt ++ [41]).length = t.txt.length + 2 := by rw [List.length_append, List.length_append]; show 1 + _ + 1 = _; omega
  rw [hw, hlen] at he ho ⊢
  rw [hw] at hs
  rw [hd]
  have s0 : bAt s k = 40 := hs.left.left.head
  have s1 : StandsAt s (k + 1) t.txt := hs.left.right
  have s2 : bAt s (k + 1 + t.txt.length) = 41 := by
    have := hs.right.head
    rw [show k + ([40] ++ t.txt : List UInt8).length = k + 1 + t.txt.length by rw [List.length_append]; show k + (1 + _) = _; omega] at this
    exact this
  have hsk : skipK s k = k := runK_stop (by rw [s0]; decide)
  have hsk2 : skipK s (k + 1 + t.txt.length) = k + 1 + t.txt.length := runK_stop (by rw [s2]; decide)
  have ho2 : opK s (k + 1 + t.txt.length) = (0, 0) := by unfold opK; rw [s2]; rfl
  have h40 : isLet (bAt s k) = false := by rw [s0]; decide
  have hop : opdW s (ex s) k deep L = if L.length + t.sz ≤ 400 ∧ deep + (t.dp + 1) ≤ 20 then some (L.length + t.sz - 1, k + (t.txt.length + 2), L ++ t.flat L.length) else none := by
    unfold opdW
    rw [if_pos s0]
    by_cases c : deep < 20
    · have := h 1 (k + 1) (deep + 1) L (by omega) (Nat.le_refl _) (Nat.le_refl _) (by rw [hw1]; exact s1) (by rw [hw1, s2]; decide) (by rw [hw1, hsk2, ho2]; exact Nat.zero_le _)
      rw [hw1, hd1] at this
      rw [if_pos c, this]
      by_cases c2 : L.length + t.sz ≤ 400 ∧ deep + (t.dp + 1) ≤ 20
      · rw [if_pos c2, if_pos (by omega), lp_eq, hsk2, ho2, if_pos (.inr rfl)]
        simp only
        rw [if_pos s2, show k + 1 + t.txt.length + 1 = k + (t.txt.length + 2) by omega]
      · rw [if_neg c2, if_neg (by omega)]
    · rw [if_neg c, if_neg (by omega)]
  rw [ex_eq, hsk, hop]
  by_cases c : L.length + t.sz ≤ 400 ∧ deep + (t.dp + 1) ≤ 20
  · rw [if_pos c, if_pos c]
  · rw [if_neg c, if_neg c]
theorem reads_opr {s : ByteArray} {o : ByteArray} {a b : Tr} (ho : 0 < lvlOf o) (hb : b.ok) (ra : Reads s a (lvlOf o)) (rb : Reads s b (lvlOf o + 1)) {m : Nat} (hm : m ≤ lvlOf o) : Reads s (.opr o a b) m := fun least k deep L hdp hl hlm hs he hop => by
  have hw : (Tr.opr o a b).wr m = a.wr (lvlOf o) ++ ([32] ++ o.data.toList ++ [32]) ++ b.wr (lvlOf o + 1) := by unfold Tr.wr; rw [if_pos (show m ≤ (Tr.opr o a b).top from hm)]; rfl
  have hd : (Tr.opr o a b).wd m = max (a.wd (lvlOf o)) (b.wd (lvlOf o + 1)) := by unfold Tr.wd; rw [if_pos (show m ≤ (Tr.opr o a b).top from hm)]; rfl
  have hsz : (Tr.opr o a b).sz = a.sz + b.sz + 1 := rfl
  have hoz : o.data.toList.length = o.size := by simp
  rw [hw] at hs he hop ⊢
  rw [hd, hsz]
  obtain ⟨ka, hka⟩ : ∃ ka, k + (a.wr (lvlOf o)).length = ka := ⟨_, rfl⟩
  have sa := hs.left.left
  have so := hs.left.right
  rw [hka] at so
  have sb := hs.right
  have hkb : k + (a.wr (lvlOf o) ++ ([32] ++ o.data.toList ++ [32])).length = ka + 1 + o.size + 1 := by
    rw [List.length_append, List.length_append, List.length_append, hoz, ← hka]
    show k + (_ + (1 + _ + 1)) = _
    omega
  rw [hkb] at sb
  have hend : k + (a.wr (lvlOf o) ++ ([32] ++ o.data.toList ++ [32]) ++ b.wr (lvlOf o + 1)).length = ka + 1 + o.size + 1 + (b.wr (lvlOf o + 1)).length := by
    rw [List.length_append, ← Nat.add_assoc, hkb]
  rw [hend] at he hop ⊢
  have c32 : bAt s ka = 32 := so.left.left.head
  have so2 : StandsAt s (ka + 1) (o.data.toList ++ [32]) := by
    rw [List.append_assoc] at so
    exact so.right
  obtain ⟨o1, o2, o3, o4⟩ := op_at ho so2
  have hska : skipK s ka = ka + 1 := skip_one c32 o3
  have cb : bAt s (ka + 1 + o.size) = 32 := by
    have := so2.right.head
    rw [hoz] at this
    exact this
  have hskb : skipK s (ka + 1 + o.size) = ka + 1 + o.size + 1 := by
    obtain ⟨c, r, e, hbl⟩ := wr_head hb (lvlOf o + 1)
    refine skip_one cb ?_
    rw [e] at sb
    rw [sb.head]
    exact hbl
  have h1 := ra least k deep L hdp hl (by omega) sa (by rw [hka, c32]; decide) (by rw [hka, hska, o1]; exact Nat.le_refl _)
  rw [hka] at h1
  rw [h1]
  by_cases cA : L.length + a.sz ≤ 400 ∧ deep + a.wd (lvlOf o) ≤ 20
  · rw [if_pos cA, lp_eq, hska, o1, if_neg (by simp only; omega)]
    simp only
    have hL1 : (L ++ a.flat L.length).length = L.length + a.sz := by rw [List.length_append, Tr.flat_len]
    have h2 := rb (lvlOf o + 1) (ka + 1 + o.size + 1) deep (L ++ a.flat L.length) hdp (by omega) (Nat.le_refl _) sb he (by omega)
    rw [← ex_skip, hskb, h2, hL1]
    by_cases cB : L.length + a.sz + b.sz ≤ 400 ∧ deep + b.wd (lvlOf o + 1) ≤ 20
    · rw [if_pos cB, lp_eq, if_pos (.inl (by omega))]
      simp only
      have hL2 : (L ++ a.flat L.length ++ b.flat (L.length + a.sz)).length = L.length + a.sz + b.sz := by rw [List.length_append, Tr.flat_len, hL1]
      rw [hL2]
      by_cases cC : L.length + a.sz + b.sz < 400
      · rw [if_pos cC, if_pos (by omega), lp_skip, o2]
        rw [show L.length + (a.sz + b.sz + 1) - 1 = L.length + a.sz + b.sz by omega]
        congr 1
        show L ++ a.flat L.length ++ b.flat (L.length + a.sz) ++ _ = L ++ (a.flat L.length ++ b.flat (L.length + a.sz) ++ _)
        simp only [List.append_assoc]
      · rw [if_neg cC, if_neg (by omega)]
    · rw [if_neg cB, if_neg (by omega)]
  · rw [if_neg cA, if_neg (by omega)]
/-- A plain text is read as its tree says. -/
theorem reads_all (s : ByteArray) : ∀ (t : Tr), t.ok → ∀ m, 1 ≤ m → m ≤ 7 → Reads s t m
  | .num n, h, m, _, hm => by
    unfold Tr.ok at h
    exact reads_leaf (x := ⟨nilS, nilS, n, 0, 0⟩) rfl rfl rfl (fun _ => rfl) (fun k hs he => by
      unfold Tr.txt at hs he ⊢
      exact leaf_num h hs he) hm
  | .nam w, h, m, _, hm => by
    unfold Tr.ok at h
    exact reads_leaf (x := ⟨nilS, w, 0, 0, 0⟩) rfl rfl rfl (fun _ => rfl) (fun k hs he => by
      unfold Tr.txt at hs he ⊢
      exact leaf_name h hs he) hm
  | .opr o a b, h, m, h1, hm => by
    have ih1 := reads_all s a h.2.1 (lvlOf o) h.1 (by have := lvl_le o; omega)
    have ih2 := reads_all s b h.2.2 (lvlOf o + 1) (by omega) (by have := lvl_le o; omega)
    by_cases c : m ≤ lvlOf o
    · exact reads_opr h.1 h.2.2 ih1 ih2 c
    · exact reads_par (reads_opr h.1 h.2.2 ih1 ih2 h.1) h.1 c
theorem tr_parse {s : ByteArray} {t : Tr} (ht : t.ok) (hs : s.data.toList = t.txt) : parseF s = if t.sz ≤ 400 ∧ t.dp ≤ 20 then some (t.flat 0) else none := by
  have h1 : 1 ≤ t.top := by
    cases t with
    | num n => exact (by decide : 1 ≤ 7)
    | nam w => exact (by decide : 1 ≤ 7)
    | opr o a b => exact ht.1
  have hw : t.wr 1 = t.txt := by unfold Tr.wr; rw [if_pos h1]
  have hd : t.wd 1 = t.dp := by unfold Tr.wd; rw [if_pos h1]
  have hz : t.txt.length = s.size := by rw [← hs]; simp
  have hst : StandsAt s 0 t.txt := fun j hj => by
    have hj2 : j < s.data.toList.length := by rw [hs]; exact hj
    have := list_bAt s j hj2
    rw [Nat.zero_add, ← this]
    congr 1
    simp only [hs]
  have hout : bAt s s.size = 256 := bAt_out (Nat.lt_irrefl _)
  have hsk : skipK s s.size = s.size := runK_stop (by rw [hout]; decide)
  have hop : opK s s.size = (0, 0) := opK_out s _ (Nat.le_refl _)
  have h := reads_all s t ht 1 (Nat.le_refl _) (by decide) 1 0 0 [] (by decide) (Nat.le_refl _) (Nat.le_refl _) (by rw [hw]; exact hst) (by rw [hw, hz, Nat.zero_add, hout]; decide) (by rw [hw, hz, Nat.zero_add, hsk, hop]; exact Nat.zero_le _)
  rw [hw, hz, hd] at h
  unfold parseF
  rw [h]
  simp only [List.length_nil, Nat.zero_add, List.nil_append]
  by_cases c : t.sz ≤ 400 ∧ t.dp ≤ 20
  · rw [if_pos c, if_pos c, lp_eq, hsk, hop, if_pos (.inr rfl)]
    simp
  · rw [if_neg c, if_neg c]
end Go.Proofs.YtlilmidffcmkjaaGreatDoor
