/- Brackets round a whole expression, plain: it is read as it was. No program in it. -/
import Derived.Test.YtlilmidffcmkjaaDoorPrsX
namespace Go.Proofs.YtlilmidffcmkjaaDoor
open Go.RowKit
set_option linter.unusedVariables false
set_option linter.unusedSimpArgs false
/-- How many brackets are open before k. -/
def dpt (s : ByteArray) : Nat → Int
  | 0 => 0
  | k + 1 => if bAt s k = 40 then dpt s k + 1 else if bAt s k = 41 then dpt s k - 1 else dpt s k
theorem dpt_keep {s : ByteArray} {k e : Nat} (h : k ≤ e) (hk : ∀ i, k ≤ i → i < e → bAt s i ≠ 40 ∧ bAt s i ≠ 41) : dpt s e = dpt s k := by
  induction e with
  | zero => obtain rfl : k = 0 := by omega
            rfl
  | succ e ih =>
    by_cases c : k = e + 1
    · rw [c]
    · obtain ⟨h1, h2⟩ := hk e (by omega) (by omega)
      rw [dpt, if_neg h1, if_neg h2]
      exact ih (by omega) fun i a b => hk i a (by omega)
theorem dpt_skip (s : ByteArray) (k : Nat) : dpt s (skipK s k) = dpt s k := dpt_keep (runK_ge isBlk s k) fun i a b => by
  have := runK_all (p := isBlk) a b
  constructor <;> intro e <;> rw [e] at this <;> exact absurd this (by decide)
theorem dpt_word (s : ByteArray) (k : Nat) : dpt s (wordK s k) = dpt s k := dpt_keep (runK_ge isWrd s k) fun i a b => by
  have := runK_all (p := isWrd) a b
  constructor <;> intro e <;> rw [e] at this <;> exact absurd this (by decide)
theorem op_bytes (s : ByteArray) (k : Nat) : ∀ i, k ≤ i → i < k + (opK s k).2 → bAt s i ≠ 40 ∧ bAt s i ≠ 41 := by
  intro i h1 h2
  unfold opK at h2
  simp only at h2
  obtain ⟨A, hA⟩ : ∃ A, bAt s k = A := ⟨_, rfl⟩
  obtain ⟨B, hB⟩ : ∃ B, bAt s (k + 1) = B := ⟨_, rfl⟩
  rw [hA, hB] at h2
  have hi : i = k ∨ i = k + 1 ∨ k + 2 ≤ i := by omega
  rcases hi with rfl | rfl | hi
  · rw [hA]
    repeat' split at h2
    all_goals simp at h2
    all_goals omega
  · rw [hB]
    repeat' split at h2
    all_goals simp at h2
    all_goals omega
  · repeat' split at h2
    all_goals simp at h2
    all_goals omega
theorem dpt_op (s : ByteArray) (k : Nat) : dpt s (k + (opK s k).2) = dpt s k := dpt_keep (Nat.le_add_right _ _) (op_bytes s k)
/-- t is s in brackets, with blanks. -/
structure Brk (s t : ByteArray) : Prop where
  size : t.size = s.size + 6
  b0 : bAt t 0 = 10
  b1 : bAt t 1 = 40
  b2 : bAt t 2 = 32
  mid : ∀ k, k < s.size → bAt t (k + 3) = bAt s k
  e0 : bAt t (s.size + 3) = 9
  e1 : bAt t (s.size + 4) = 41
  e2 : bAt t (s.size + 5) = 32
section
variable {s t : ByteArray} (h : Brk s t) (hd : ∀ k, k ≤ s.size → 0 ≤ dpt s k ∧ dpt s k ≤ 19)
include h
theorem Brk.out {q : Nat} (hq : s.size + 6 ≤ q) : bAt t q = 256 := bAt_out (by have := h.size; omega)
/-- Where a place of s, blanks behind it, stands in t. -/
def shK (s : ByteArray) (k : Nat) : Nat := if k = s.size then s.size + 4 else k + 3
omit h in
theorem sh_end (s : ByteArray) : shK s s.size = s.size + 4 := if_pos rfl
omit h in
theorem sh_in {s : ByteArray} {k : Nat} (hk : k < s.size) : shK s k = k + 3 := if_neg (by omega)
theorem Brk.run {p : Nat → Bool} (hp : p 256 = false) (h9 : p 9 = false) {k : Nat} (hk : k ≤ s.size) : runK p t (k + 3) = runK p s k + 3 := by
  have hg := runK_ge p s k
  have hl := runK_le p s k hk
  refine runK_is hp (by omega) ?_ fun i a b => ?_
  · by_cases c : runK p s k = s.size
    · rw [c, h.e0]; exact h9
    · rw [h.mid _ (by omega)]; exact runK_end p hp s k
  · have := h.mid (i - 3) (by omega)
    rw [show i - 3 + 3 = i by omega] at this
    rw [this]
    exact runK_all (k := k) (by omega) (by omega)
theorem Brk.skip {k : Nat} (hk : k ≤ s.size) : skipK t (k + 3) = shK s (skipK s k) := by
  have hg : k ≤ skipK s k := runK_ge isBlk s k
  have hl : skipK s k ≤ s.size := runK_le isBlk s k hk
  unfold skipK at hg hl ⊢
  refine runK_is (by decide) (by unfold shK; split <;> omega) ?_ fun i a b => ?_
  · by_cases c : runK isBlk s k = s.size
    · rw [c, sh_end, h.e1]; rfl
    · rw [sh_in (by omega), h.mid _ (by omega)]; exact runK_end isBlk (by decide) s k
  · by_cases c : i = s.size + 3
    · rw [c, h.e0]; rfl
    · have hi : i < runK isBlk s k + 3 := by unfold shK at b; split at b <;> omega
      have := h.mid (i - 3) (by omega)
      rw [show i - 3 + 3 = i by omega] at this
      rw [this]
      exact runK_all (k := k) (by omega) (by omega)
theorem Brk.op {p : Nat} (hp : p ≤ s.size) : opK t (shK s p) = opK s p := by
  by_cases c : p = s.size
  · rw [c, sh_end, opK_out s _ (Nat.le_refl _)]
    unfold opK
    rw [h.e1]
    rfl
  · rw [sh_in (by omega)]
    have e0 := h.mid p (by omega)
    unfold opK
    rw [e0]
    by_cases c1 : p + 1 = s.size
    · have e1 : bAt t (p + 3 + 1) = 9 := by rw [show p + 3 + 1 = s.size + 3 by omega]; exact h.e0
      have e2 : bAt s (p + 1) = 256 := bAt_out (by omega)
      rw [e1, e2]
      rfl
    · have e1 : bAt t (p + 3 + 1) = bAt s (p + 1) := by rw [show p + 3 + 1 = p + 1 + 3 by omega]; exact h.mid _ (by omega)
      rw [e1]
theorem Brk.ext {p e : Nat} (hpe : p ≤ e) (he : e ≤ s.size) : t.extract (p + 3) (e + 3) = s.extract p e := by
  apply ba_eq
  rw [ext_data, ext_data]
  have hz := h.size
  have hlt : t.data.toList.length = t.size := by simp
  have hls : s.data.toList.length = s.size := by simp
  apply List.ext_getElem?
  intro i
  by_cases c : i < e - p
  · rw [List.getElem?_take_of_lt (by omega), List.getElem?_take_of_lt c, List.getElem?_drop, List.getElem?_drop]
    have hm := h.mid (p + i) (by omega)
    rw [bAt_get, bAt_get] at hm
    rw [List.getElem?_eq_getElem (show p + 3 + i < t.data.toList.length by omega), List.getElem?_eq_getElem (show p + i < s.data.toList.length by omega)]
    rw [List.getElem?_eq_getElem (show p + i + 3 < t.data.toList.length by omega), List.getElem?_eq_getElem (show p + i < s.data.toList.length by omega)] at hm
    simp only at hm
    have := UInt8.toNat_inj.1 hm
    simp only [show p + 3 + i = p + i + 3 by omega]
    rw [this]
  · rw [List.getElem?_eq_none (by rw [List.length_take]; omega), List.getElem?_eq_none (by rw [List.length_take]; omega)]
theorem Brk.val (b : Nat) : ∀ f k a, k + f ≤ s.size → valGo t b f (k + 3) a = valGo s b f k a
  | 0, k, a, _ => rfl
  | f + 1, k, a, hk => by
    rw [valGo, valGo, h.mid k (by omega)]
    split
    · rw [show k + 3 + 1 = k + 1 + 3 by omega]
      exact Brk.val b f (k + 1) _ (by omega)
    · rfl
theorem Brk.dig (b : Nat) {k e : Nat} (he : e ≤ s.size) : digN t b (k + 3) (e + 3) = digN s b k e := by
  unfold digN
  by_cases c : k < e
  · rw [if_pos c, if_pos (by omega), show e + 3 - (k + 3) = e - k by omega, h.val b _ _ _ (by omega)]
  · rw [if_neg c, if_neg (by omega)]
theorem Brk.leaf {p : Nat} (hp : p < s.size) : leafX t (p + 3) (wordK t (p + 3)) = leafX s p (wordK s p) := by
  have hg : p ≤ wordK s p := runK_ge isWrd s p
  have hl : wordK s p ≤ s.size := runK_le isWrd s p (by omega)
  have hw : wordK t (p + 3) = wordK s p + 3 := h.run (by decide) (by decide) (by omega)
  rw [hw]
  unfold leafX
  have e0 := h.mid p hp
  have hh : hexB t (p + 3) = hexB s p := by
    unfold hexB
    rw [e0]
    by_cases c1 : p + 1 = s.size
    · have e1 : bAt t (p + 3 + 1) = 9 := by rw [show p + 3 + 1 = s.size + 3 by omega]; exact h.e0
      have e2 : bAt s (p + 1) = 256 := bAt_out (by omega)
      rw [e1, e2]
      rfl
    · have e1 : bAt t (p + 3 + 1) = bAt s (p + 1) := by rw [show p + 3 + 1 = p + 1 + 3 by omega]; exact h.mid _ (by omega)
      rw [e1]
  have hn : numK t (p + 3) (wordK s p + 3) = numK s p (wordK s p) := by
    unfold numK
    rw [hh, show p + 3 + 2 = p + 2 + 3 by omega, h.dig 16 hl, h.dig 10 hl]
  rw [e0, h.ext hg hl, hn, show wordK s p + 3 - (p + 3) = wordK s p - p by omega]
theorem Brk.far {q : Nat} (hq : s.size + 5 ≤ q) : bAt t q ≠ 41 ∧ bAt t q ≠ 40 ∧ s.size + 5 ≤ skipK t q ∧ opK t (skipK t q) = (0, 0) := by
  have hsz := h.size
  have hge : q ≤ skipK t q := runK_ge isBlk t q
  have h1 : bAt t q ≠ 41 ∧ bAt t q ≠ 40 := by
    by_cases c : q = s.size + 5
    · rw [c, h.e2]; decide
    · rw [h.out (by omega)]; decide
  refine ⟨h1.1, h1.2, by omega, opK_out t _ ?_⟩
  by_cases c : q = s.size + 5
  · have : skipK t q = s.size + 6 := runK_is (by decide) (by omega) (by rw [h.out (Nat.le_refl _)]; decide) fun i a b => by
      obtain rfl : i = q := by omega
      rw [c, h.e2]; decide
    omega
  · omega
theorem Brk.last : leafX t (s.size + 4) (wordK t (s.size + 4)) = none := by
  have hw : wordK t (s.size + 4) = s.size + 4 := runK_stop (by rw [h.e1]; decide)
  rw [hw]
  unfold leafX numK digN hexB
  rw [h.e1]
  simp [isLet]
omit h in
/-- What is read of s, and of t. -/
def RelK (s : ByteArray) (a b : PR) : Prop := b = a.map (fun x => (x.1, shK s x.2.1, x.2.2)) ∨ (a = none ∧ ∃ i q l, b = some (i, q, l) ∧ s.size + 5 ≤ q)
theorem Brk.lp_far {least i q deep : Nat} {l : List ExpR} (hq : s.size + 5 ≤ q) : ∃ q', lp t least i q deep l = some (i, q', l) ∧ s.size + 5 ≤ q' := by
  obtain ⟨_, _, h2, h3⟩ := h.far hq
  refine ⟨skipK t q, ?_, h2⟩
  rw [lp_eq, if_pos (.inr (by rw [h3]))]
theorem Brk.lp_sh {k : Nat} (hk : k ≤ s.size) (least i deep : Nat) (l : List ExpR) : lp t least i (shK s k) deep l = lp t least i (k + 3) deep l := by
  by_cases c : k = s.size
  · have hs : skipK s k = k := by rw [c]; exact runK_stop (by rw [bAt_out (Nat.lt_irrefl _)]; decide)
    have := h.skip hk
    rw [hs] at this
    rw [← this]
    exact lp_skip t least i (k + 3) deep l
  · rw [sh_in (by omega)]
include hd
/-- Both at once. -/
theorem Brk.both : ∀ n, (∀ least k deep l, k ≤ s.size → s.size < k + n → dpt s k = (deep : Nat) → RelK s (ex s least k deep l) (ex t least (k + 3) (deep + 1) l) ∧ ∀ i k2 l2, ex s least k deep l = some (i, k2, l2) → dpt s k2 = (deep : Nat) ∧ k2 ≤ s.size)
    ∧ (∀ least i k deep l, k ≤ s.size → s.size < k + n → dpt s k = (deep : Nat) → RelK s (lp s least i k deep l) (lp t least i (k + 3) (deep + 1) l) ∧ ∀ i2 k2 l2, lp s least i k deep l = some (i2, k2, l2) → dpt s k2 = (deep : Nat) ∧ k2 ≤ s.size)
  | 0 => ⟨fun _ k _ _ h1 h2 _ => absurd h2 (by omega), fun _ _ k _ _ h1 h2 _ => absurd h2 (by omega)⟩
  | n + 1 => by
    obtain ⟨ihE, ihL⟩ := Brk.both n
    have L : ∀ least i k deep l, k ≤ s.size → s.size < k + (n + 1) → dpt s k = (deep : Nat) → RelK s (lp s least i k deep l) (lp t least i (k + 3) (deep + 1) l) ∧ ∀ i2 k2 l2, lp s least i k deep l = some (i2, k2, l2) → dpt s k2 = (deep : Nat) ∧ k2 ≤ s.size := by
      intro least i k deep l hk hn hdk
      have hg : k ≤ skipK s k := runK_ge isBlk s k
      have hl : skipK s k ≤ s.size := runK_le isBlk s k hk
      have hds := dpt_skip s k
      have hso := dpt_op s (skipK s k)
      have hor := opK_or s (skipK s k)
      have hop := h.op hl
      have hsk := h.skip hk
      rw [lp_eq s, lp_eq t, hsk, hop]
      obtain ⟨p, hp⟩ : ∃ p, skipK s k = p := ⟨_, rfl⟩
      rw [hp] at hg hl hds hso hor hop hsk ⊢
      by_cases c : (opK s p).1 < least ∨ (opK s p).1 = 0
      · rw [if_pos c, if_pos c]
        refine ⟨.inl rfl, fun i2 k2 l2 e => ?_⟩
        injection e with e; injection e with _ e; injection e with e _
        subst e
        exact ⟨by omega, hl⟩
      · have ho : 1 ≤ (opK s p).1 ∧ (opK s p).1 ≤ 6 ∧ 1 ≤ (opK s p).2 ∧ (opK s p).2 ≤ 2 ∧ p + (opK s p).2 ≤ s.size := by
          rcases hor with e | e
          · rw [e] at c; simp at c
          · exact e
        rw [if_neg c, if_neg c, sh_in (by omega), show p + 3 + (opK s p).2 = p + (opK s p).2 + 3 by omega, h.ext (Nat.le_add_right _ _) ho.2.2.2.2]
        obtain ⟨r1, r2⟩ := ihE ((opK s p).1 + 1) (p + (opK s p).2) deep l ho.2.2.2.2 (by omega) (by omega)
        rcases r1 with r1 | ⟨r0, i', q, l', r1, hq⟩
        · rw [r1]
          cases hx : ex s ((opK s p).1 + 1) (p + (opK s p).2) deep l with
          | none => exact ⟨.inl rfl, fun _ _ _ e => by cases e⟩
          | some x =>
            obtain ⟨r, k2, l2⟩ := x
            obtain ⟨d2, hk2⟩ := r2 r k2 l2 hx
            have hge := ex_grows s _ _ _ _ _ _ _ hx
            simp only [Option.map_some]
            split
            · rw [h.lp_sh hk2]
              exact ihL _ _ _ _ _ hk2 (by omega) d2
            · exact ⟨.inl rfl, fun _ _ _ e => by cases e⟩
        · rw [r0, r1]
          simp only
          refine ⟨?_, fun _ _ _ e => by cases e⟩
          split
          · obtain ⟨q', e1, e2⟩ := h.lp_far (least := least) (i := l'.length) (deep := deep + 1) (l := l' ++ [⟨s.extract p (p + (opK s p).2), nilS, 0, (i : Nat), (i' : Nat)⟩]) hq
            exact .inr ⟨rfl, _, _, _, e1, e2⟩
          · exact .inl rfl
    refine ⟨?_, L⟩
    intro least k deep l hk hn hdk
    have hg : k ≤ skipK s k := runK_ge isBlk s k
    have hl : skipK s k ≤ s.size := runK_le isBlk s k hk
    have hds := dpt_skip s k
    have hsk := h.skip hk
    rw [ex_eq s, ex_eq t, hsk]
    obtain ⟨p, hp⟩ : ∃ p, skipK s k = p := ⟨_, rfl⟩
    rw [hp] at hg hl hds hsk ⊢
    by_cases c : p = s.size
    · have e1 : opdW s (ex s) p deep l = none := by
        unfold opdW
        rw [c, bAt_out (Nat.lt_irrefl _), leaf_none s _ (Nat.le_refl _)]
        rfl
      have e2 : opdW t (ex t) (shK s p) (deep + 1) l = none := by
        unfold opdW
        rw [c, sh_end, h.e1, h.last]
        rfl
      rw [e1, e2]
      exact ⟨.inl rfl, fun _ _ _ e => by cases e⟩
    · have hpl : p < s.size := by omega
      rw [sh_in hpl]
      by_cases c4 : bAt s p = 40
      · have d1 : dpt s (p + 1) = dpt s p + 1 := by rw [dpt, if_pos c4]
        have hd1 := hd (p + 1) (by omega)
        have g1 : deep < 20 := by omega
        have g2 : deep + 1 < 20 := by omega
        unfold opdW
        rw [h.mid p hpl, if_pos c4, if_pos c4, if_pos g1, if_pos g2, show p + 3 + 1 = p + 1 + 3 by omega]
        obtain ⟨r1, r2⟩ := ihE 1 (p + 1) (deep + 1) l (by omega) (by omega) (by rw [d1]; omega)
        rcases r1 with r1 | ⟨r0, i', q, l', r1, hq⟩
        · rw [r1]
          cases hx : ex s 1 (p + 1) (deep + 1) l with
          | none => exact ⟨.inl rfl, fun _ _ _ e => by cases e⟩
          | some x =>
            obtain ⟨r, k2, l2⟩ := x
            obtain ⟨d2, hk2⟩ := r2 r k2 l2 hx
            have hge := ex_grows s _ _ _ _ _ _ _ hx
            simp only [Option.map_some]
            by_cases ce : k2 = s.size
            · subst ce
              rw [sh_end, h.e1, if_pos rfl, if_neg (by rw [bAt_out (Nat.lt_irrefl _)]; decide)]
              obtain ⟨q', e1, e2⟩ := h.lp_far (least := least) (i := r) (q := s.size + 4 + 1) (deep := deep + 1) (l := l2) (by omega)
              exact ⟨.inr ⟨rfl, _, _, _, e1, e2⟩, fun _ _ _ e => by cases e⟩
            · have hlt : k2 < s.size := by omega
              rw [sh_in hlt, h.mid k2 hlt]
              by_cases c5 : bAt s k2 = 41
              · have d3 : dpt s (k2 + 1) = dpt s k2 - 1 := by rw [dpt, if_neg (by omega), if_pos c5]
                rw [if_pos c5, if_pos c5]
                simp only
                rw [show k2 + 3 + 1 = k2 + 1 + 3 by omega]
                exact ihL least r (k2 + 1) deep l2 (by omega) (by omega) (by rw [d3, d2]; omega)
              · rw [if_neg c5, if_neg c5]
                exact ⟨.inl rfl, fun _ _ _ e => by cases e⟩
        · rw [r0, r1]
          simp only
          rw [if_neg (h.far hq).1]
          exact ⟨.inl rfl, fun _ _ _ e => by cases e⟩
      · have hgw : p ≤ wordK s p := runK_ge isWrd s p
        have hlw : wordK s p ≤ s.size := runK_le isWrd s p (by omega)
        have hw : wordK t (p + 3) = wordK s p + 3 := h.run (by decide) (by decide) (by omega)
        unfold opdW
        rw [h.mid p hpl, if_neg c4, if_neg c4, h.leaf hpl, hw]
        cases hx : leafX s p (wordK s p) with
        | none => exact ⟨.inl rfl, fun _ _ _ e => by cases e⟩
        | some x =>
          simp only
          by_cases cl : l.length < 400
          · rw [if_pos cl, if_pos cl]
            exact L least l.length (wordK s p) deep (l ++ [x]) hlw (by omega) (by rw [dpt_word]; omega)
          · rw [if_neg cl, if_neg cl]
            exact ⟨.inl rfl, fun _ _ _ e => by cases e⟩
/-- A text in brackets is read as it is without. -/
theorem Brk.parse : parseF t = parseF s := by
  have hs0 : skipK t 0 = 1 := runK_is (by decide) (by omega) (by rw [h.b1]; decide) fun i a b => by
    obtain rfl : i = 0 := by omega
    rw [h.b0]; decide
  have hs2 : skipK t 2 = skipK t 3 := by
    have h3 : 3 ≤ skipK t 3 := runK_ge isBlk t 3
    exact runK_is (by decide) (by omega) (runK_end isBlk (by decide) t 3) fun i a b => by
      by_cases c : i = 2
      · rw [c, h.b2]; decide
      · exact runK_all (p := isBlk) (k := 3) (by omega) b
  have hE : ex t 1 2 1 [] = ex t 1 3 1 [] := by rw [ex_eq, ex_eq t 1 3, hs2]
  obtain ⟨r1, r2⟩ := (h.both hd (s.size + 1)).1 1 0 0 [] (Nat.zero_le _) (by omega) rfl
  have hsz := h.size
  have hend : ∀ i l, lp t 1 i (s.size + 5) 0 l = some (i, s.size + 6, l) := fun i l => by
    have hs5 : skipK t (s.size + 5) = s.size + 6 := runK_is (by decide) (by omega) (by rw [h.out (Nat.le_refl _)]; decide) fun j a b => by
      obtain rfl : j = s.size + 5 := by omega
      rw [h.e2]; decide
    rw [lp_eq, hs5, if_pos (.inr (by rw [opK_out t _ (by omega)]))]
  unfold parseF
  rw [ex_eq t, hs0]
  unfold opdW
  rw [h.b1, if_pos rfl, if_pos (by decide), hE]
  rw [show (0 : Nat) + 1 = 1 from rfl, show (0 : Nat) + 3 = 3 from rfl] at r1
  rcases r1 with r1 | ⟨r0, i', q, l', r1, hq⟩
  · rw [r1]
    cases hx : ex s 1 0 0 [] with
    | none => rfl
    | some x =>
      obtain ⟨r, k2, l2⟩ := x
      obtain ⟨d2, hk2⟩ := r2 r k2 l2 hx
      simp only [Option.map_some]
      by_cases c : k2 = s.size
      · subst c
        rw [sh_end, h.e1, if_pos rfl]
        simp only
        rw [hend]
        simp [hsz]
      · rw [sh_in (by omega), h.mid k2 (by omega), if_neg (by
          intro c5
          have d3 : dpt s (k2 + 1) = dpt s k2 - 1 := by rw [dpt, if_neg (by omega), if_pos c5]
          have := (hd (k2 + 1) (by omega)).1
          omega), if_neg c]
  · rw [r0, r1]
    simp only
    rw [if_neg (h.far hq).1]
end
end Go.Proofs.YtlilmidffcmkjaaDoor
