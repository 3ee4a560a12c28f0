import Derived.Test.YtcacnidlfjglbaaPkgC
import Derived.Test.YtcacnidlfjglbaaLenN
import Derived.Deep.RegionWith
/- Plain: package-merge chooses the lightest: no assignment of lengths costs less. No program in it. -/
namespace Go.Proofs.Ytcacnidlfjglbaa
set_option linter.unusedVariables false
/-- What nodes weigh. -/
def wgt (L : List NdM) : Nat := (L.map Prod.fst).sum
theorem wgt_nil : wgt [] = 0 := rfl
theorem wgt_cons (x : NdM) (L : List NdM) : wgt (x :: L) = x.1 + wgt L := by simp [wgt]
theorem wgt_append (L L' : List NdM) : wgt (L ++ L') = wgt L + wgt L' := by simp [wgt]
theorem wgt_perm {L L' : List NdM} (h : L.Perm L') : wgt L = wgt L' := by
  induction h with
  | nil => rfl
  | cons x _ ih => rw [wgt_cons, wgt_cons, ih]
  | swap x y l => rw [wgt_cons, wgt_cons, wgt_cons, wgt_cons]; omega
  | trans _ _ h1 h2 => rw [h1, h2]
theorem wgt_take (L : List NdM) {a b : Nat} (h : a ≤ b) : wgt (L.take a) ≤ wgt (L.take b) := by
  obtain ⟨c, rfl⟩ := Nat.exists_eq_add_of_le h
  rw [List.take_add, wgt_append]; omega
theorem asc_shift {s : NdM} {S : List NdM} (h : AscM (s :: S)) : ∀ n, n ≤ S.length → wgt ((s :: S).take n) ≤ wgt (S.take n)
  | 0, _ => Nat.le_refl _
  | n + 1, hn => by
    have h1 : s.1 ≤ S[n].1 := by
      unfold AscM at h
      rw [List.pairwise_cons] at h
      exact h.1 _ (List.getElem_mem (by omega))
    rw [List.take_succ_cons, wgt_cons, List.take_succ_eq_append_getElem (by omega), wgt_append, wgt_cons, wgt_nil]
    omega
theorem asc_take : ∀ (S X R : List NdM), AscM S → S.Perm (X ++ R) → wgt (S.take X.length) ≤ wgt X
  | S, [], R, _, _ => by simp [wgt]
  | [], x :: X, R, _, hp => by have := hp.length_eq; simp at this
  | s :: S, x :: X, R, h, hp => by
    have h' := h
    unfold AscM at h'
    rw [List.pairwise_cons] at h'
    have hm : s ∈ (x :: X) ++ R := hp.mem_iff.1 (List.mem_cons_self ..)
    rcases List.mem_append.1 hm with e | e
    · have p1 := List.perm_cons_erase e
      have p2 : (s :: S).Perm (s :: ((x :: X).erase s ++ R)) := hp.trans (p1.append_right R)
      have ih := asc_take S ((x :: X).erase s) R h'.2 p2.cons_inv
      have hl := p1.length_eq
      rw [wgt_perm p1, hl, List.length_cons, List.take_succ_cons, wgt_cons, wgt_cons]
      omega
    · have p1 := List.perm_cons_erase e
      have p2 : (s :: S).Perm (s :: ((x :: X) ++ R.erase s)) := hp.trans ((p1.append_left (x :: X)).trans List.perm_middle)
      have p3 := p2.cons_inv
      have ih := asc_take S (x :: X) (R.erase s) h'.2 p3
      have hl := p3.length_eq
      rw [List.length_append] at hl
      exact Nat.le_trans (asc_shift h _ (by omega)) ih
termination_by S => S.length
/-- The first of the sorted ones weigh no more than any of as many. -/
theorem sub_sum {X Y : List NdM} (h : X.Sublist Y) : wgt ((sortM Y).take X.length) ≤ wgt X := by
  obtain ⟨R, hR⟩ := h.exists_perm_append
  exact asc_take (sortM Y) X R (sortM_asc Y) ((sortL_perm mLt Y).trans hR)
theorem prM_take : ∀ (j : Nat) (L : List NdM), 2 * j ≤ L.length → wgt ((prM L).take j) = wgt (L.take (2 * j))
  | 0, L, _ => by simp
  | j + 1, [], h => by simp at h
  | j + 1, [x], h => by simp at h; omega
  | j + 1, a :: b :: r, h => by
    have ih := prM_take j r (by simp at h; omega)
    have e : prM (a :: b :: r) = (a.1 + b.1, a.2 ++ b.2) :: prM r := by simp [prM]
    rw [e, List.take_succ_cons, wgt_cons, ih, show 2 * (j + 1) = 2 * j + 1 + 1 by omega, List.take_succ_cons, List.take_succ_cons, wgt_cons, wgt_cons]
    simp only
    omega
/-- What a choice of leaves is worth, and costs, at the levels up to k. -/
def worC (sel : Nat → List NdM) : Nat → Nat
  | 0 => (sel 0).length
  | k + 1 => worC sel k + (sel (k + 1)).length * 2 ^ (k + 1)
def cosC (sel : Nat → List NdM) : Nat → Nat
  | 0 => wgt (sel 0)
  | k + 1 => cosC sel k + wgt (sel (k + 1))
theorem pkg_opt (M : List NdM) : ∀ (k : Nat) (sel : Nat → List NdM) (w : Nat), (∀ j, (sel j).Sublist M) → w * 2 ^ k ≤ worC sel k → w ≤ (lvlM M k).length ∧ wgt ((lvlM M k).take w) ≤ cosC sel k
  | 0, sel, w, hs, hw => by
    have h1 : w ≤ (sel 0).length := by simpa [worC] using hw
    have h2 := (hs 0).length_le
    refine ⟨?_, Nat.le_trans (wgt_take _ h1) (sub_sum (hs 0))⟩
    show w ≤ (sortL mLt M).length
    rw [sortL_len]; omega
  | k + 1, sel, w, hs, hw => by
    have h2 := (hs (k + 1)).length_le
    have hlen : (lvlM M (k + 1)).length = M.length + (prM (lvlM M k)).length := by
      show (sortL mLt (M ++ prM (lvlM M k))).length = _
      rw [sortL_len, List.length_append]
    by_cases hwa : w ≤ (sel (k + 1)).length
    · refine ⟨by omega, ?_⟩
      have h3 : (sel (k + 1)).Sublist (M ++ prM (lvlM M k)) := (hs (k + 1)).trans (List.sublist_append_left _ _)
      have h4 := sub_sum h3
      have h5 : wgt ((lvlM M (k + 1)).take w) ≤ wgt (sel (k + 1)) := Nat.le_trans (wgt_take _ hwa) h4
      show _ ≤ cosC sel k + wgt (sel (k + 1))
      omega
    · obtain ⟨d, hd⟩ : ∃ d, w = (sel (k + 1)).length + d := ⟨w - (sel (k + 1)).length, by omega⟩
      have hw2 : 2 * d * 2 ^ k ≤ worC sel k := by
        have e1 : worC sel (k + 1) = worC sel k + (sel (k + 1)).length * 2 ^ (k + 1) := rfl
        rw [e1, hd, Nat.add_mul] at hw
        have e2 : 2 * d * 2 ^ k = d * 2 ^ (k + 1) := by rw [Nat.pow_succ, Nat.mul_comm 2 d, Nat.mul_assoc, Nat.mul_comm 2]
        rw [e2]; omega
      obtain ⟨i1, i2⟩ := pkg_opt M k sel (2 * d) hs hw2
      have i3 := prM_take d (lvlM M k) i1
      have i4 := prM_len (lvlM M k)
      have h3 : (sel (k + 1) ++ (prM (lvlM M k)).take d).Sublist (M ++ prM (lvlM M k)) := (hs (k + 1)).append (List.take_sublist _ _)
      have h4 := sub_sum h3
      have h5 : (sel (k + 1) ++ (prM (lvlM M k)).take d).length = w := by rw [List.length_append, List.length_take, i4, hd]; omega
      rw [h5, wgt_append, i3] at h4
      refine ⟨by rw [hlen, i4]; omega, ?_⟩
      show wgt ((lvlM M (k + 1)).take w) ≤ cosC sel k + wgt (sel (k + 1))
      have h6 : wgt ((lvlM M (k + 1)).take w) ≤ wgt (sel (k + 1)) + wgt ((lvlM M k).take (2 * d)) := h4
      omega
/-- What the levels from t to k are worth. -/
def oneW (t : Nat) : Nat → Nat
  | 0 => if t ≤ 0 then 1 else 0
  | k + 1 => oneW t k + if t ≤ k + 1 then 2 ^ (k + 1) else 0
def oneC (t : Nat) : Nat → Nat
  | 0 => if t ≤ 0 then 1 else 0
  | k + 1 => oneC t k + if t ≤ k + 1 then 1 else 0
theorem oneW_none {t : Nat} : ∀ k, k < t → oneW t k = 0
  | 0, h => by simp [oneW]; omega
  | k + 1, h => by rw [oneW, oneW_none k (by omega), if_neg (by omega)]
theorem oneW_eq {t : Nat} : ∀ k, t ≤ k + 1 → oneW t k + 2 ^ t = 2 ^ (k + 1)
  | 0, h => by
    rcases (show t = 0 ∨ t = 1 by omega) with rfl | rfl <;> rfl
  | k + 1, h => by
    by_cases ht : t ≤ k + 1
    · have := oneW_eq k ht
      rw [oneW, if_pos ht, Nat.pow_succ 2 (k + 1)]
      omega
    · obtain rfl : t = k + 2 := by omega
      rw [oneW, if_neg ht, oneW_none k (by omega)]
      simp
theorem oneC_eq {t : Nat} : ∀ k, oneC t k = k + 1 - t
  | 0 => by unfold oneC; split <;> omega
  | k + 1 => by rw [oneC, oneC_eq k]; split <;> omega
/-- The choice that an assignment of lengths stands for. -/
def selA (most : Nat) (asg : NdM → Nat) (M : List NdM) (j : Nat) : List NdM := M.filter fun m => decide (most - asg m ≤ j)
theorem selA_wor (most : Nat) (asg : NdM → Nat) : ∀ (M : List NdM) (k : Nat), worC (selA most asg M) k = (M.map fun m => oneW (most - asg m) k).sum
  | [], k => by
    induction k with
    | zero => rfl
    | succ k ih => rw [worC, ih]; simp [selA]
  | m :: M, k => by
    rw [List.map_cons, List.sum_cons, ← selA_wor most asg M k]
    have e : ∀ j, (selA most asg (m :: M) j).length = (selA most asg M j).length + if most - asg m ≤ j then 1 else 0 := fun j => by
      unfold selA
      by_cases h : most - asg m ≤ j
      · have hd : decide (most - asg m ≤ j) = true := decide_eq_true h
        simp only [List.filter_cons, hd, if_true, if_pos h, List.length_cons]
      · have hd : decide (most - asg m ≤ j) = false := decide_eq_false h
        simp only [List.filter_cons, hd, if_neg h, Bool.false_eq_true, if_false, Nat.add_zero]
    induction k with
    | zero => show (selA most asg (m :: M) 0).length = _ + (selA most asg M 0).length; rw [e, oneW]; omega
    | succ k ih =>
      rw [worC, worC, ih, e, oneW, Nat.add_mul]
      split <;> omega
theorem selA_cos (most : Nat) (asg : NdM → Nat) : ∀ (M : List NdM) (k : Nat), cosC (selA most asg M) k = (M.map fun m => m.1 * oneC (most - asg m) k).sum
  | [], k => by
    induction k with
    | zero => rfl
    | succ k ih => rw [cosC, ih]; simp [selA, wgt]
  | m :: M, k => by
    rw [List.map_cons, List.sum_cons, ← selA_cos most asg M k]
    have e : ∀ j, wgt (selA most asg (m :: M) j) = wgt (selA most asg M j) + m.1 * if most - asg m ≤ j then 1 else 0 := fun j => by
      unfold selA
      by_cases h : most - asg m ≤ j
      · have hd : decide (most - asg m ≤ j) = true := decide_eq_true h
        simp only [List.filter_cons, hd, if_true, if_pos h, wgt_cons]; omega
      · have hd : decide (most - asg m ≤ j) = false := decide_eq_false h
        simp only [List.filter_cons, hd, if_neg h, Bool.false_eq_true, if_false, Nat.mul_zero, Nat.add_zero]
    induction k with
    | zero => show wgt (selA most asg (m :: M) 0) = _ + wgt (selA most asg M 0); rw [e, oneC]; omega
    | succ k ih =>
      rw [cosC, cosC, ih, e, oneC, Nat.mul_add]
      omega
theorem sum_le_mul {f : NdM → Nat} {c : Nat} : ∀ M : List NdM, (∀ m ∈ M, f m ≤ c) → (M.map f).sum ≤ M.length * c
  | [], _ => by simp
  | m :: M, h => by
    have h1 := h m (List.mem_cons_self ..)
    have h2 := sum_le_mul M (fun x hx => h x (List.mem_cons_of_mem _ hx))
    rw [List.map_cons, List.sum_cons, List.length_cons, Nat.succ_mul]; omega
theorem sum_split {most k : Nat} {asg : NdM → Nat} (hk : most = k + 1) : ∀ M : List NdM, (M.map fun m => oneW (most - asg m) k).sum + (M.map fun m => 2 ^ (most - asg m)).sum = M.length * 2 ^ most
  | [] => by simp
  | m :: M => by
    have h1 := oneW_eq (t := most - asg m) k (by omega)
    have h2 := sum_split (asg := asg) hk M
    rw [List.map_cons, List.sum_cons, List.map_cons, List.sum_cons, List.length_cons, Nat.succ_mul]
    rw [hk] at h2 h1 ⊢
    omega
theorem cost_eq {most k : Nat} {asg : NdM → Nat} (hk : most = k + 1) : ∀ M : List NdM, (∀ m ∈ M, asg m ≤ most) → (M.map fun m => m.1 * oneC (most - asg m) k).sum = (M.map fun m => m.1 * asg m).sum
  | [], _ => rfl
  | m :: M, h => by
    have h1 := h m (List.mem_cons_self ..)
    have h2 := cost_eq hk M (fun x hx => h x (List.mem_cons_of_mem _ hx))
    rw [List.map_cons, List.sum_cons, List.map_cons, List.sum_cons, h2, oneC_eq, show k + 1 - (most - asg m) = asg m by omega]
/-- No assignment of lengths costs less than what package-merge chooses. -/
theorem least_plain {M : List NdM} {most : Nat} (hm : 1 ≤ most) (asg : NdM → Nat) (h : ∀ m ∈ M, asg m ≤ most) (hk : (M.map fun m => 2 ^ (most - asg m)).sum ≤ 2 ^ most) : wgt ((lvlM M (most - 1)).take (2 * M.length - 2)) ≤ (M.map fun m => m.1 * asg m).sum := by
  obtain ⟨k, rfl⟩ : ∃ k, most = k + 1 := ⟨most - 1, by omega⟩
  have h1 := sum_split (asg := asg) rfl M (k := k)
  have h2 : (2 * M.length - 2) * 2 ^ k ≤ worC (selA (k + 1) asg M) k := by
    rw [selA_wor]
    have e : (2 * M.length - 2) * 2 ^ k = M.length * 2 ^ (k + 1) - 2 ^ (k + 1) := by
      rw [Nat.sub_mul, Nat.pow_succ, Nat.mul_comm 2 M.length, Nat.mul_assoc, Nat.mul_comm 2 (2 ^ k)]
    rw [e]; omega
  have h3 := (pkg_opt M k (selA (k + 1) asg M) (2 * M.length - 2) (fun j => List.filter_sublist) h2).2
  rw [selA_cos, cost_eq rfl M h] at h3
  exact h3
end Go.Proofs.Ytcacnidlfjglbaa
/- Plain: what the document reckons as the least sum is what package-merge costs. No program in it. -/
namespace Go.Proofs.Ytcacnidlfjglbaa
open Go.RowKit Go.Conc
set_option linter.unusedVariables false
theorem pkg_kraft {l : List Int} {len k : Nat} (h15 : k + 1 ≤ 15) (h2 : 2 ≤ (lvM l len).length) (hm : (lvM l len).length ≤ 2 ^ (k + 1)) :
    kraftS ((List.range len).map fun s => ((lenS l len (k + 1) s : Nat) : Int)) 16 = 32768 := by
  have hpos : ∀ x ∈ lvM l len, 0 < x.1 := fun x hx => by
    rw [lvM_eq] at hx
    obtain ⟨s, hs, rfl⟩ := List.mem_map.1 hx
    have := of_decide_eq_true (List.mem_filter.1 hs).2
    show 0 < (l.getD s 0).toNat
    omega
  obtain ⟨f, hf⟩ := levels hpos k (2 * (lvM l len).length - 2) (lvlM_long _ (by omega) k hm)
  have hrl : (ranks l len).length = (lvM l len).length := by unfold ranks sortM; rw [List.length_map, sortL_len]
  generalize hn : (lvM l len).length = n at *
  have hS : ∀ s, lenS l len (k + 1) s = sumC (lvM l len) f s k := fun s => by
    have := hf.count s
    rw [← this]
    unfold lenS chosen
    rw [hn]; rfl
  have hmem : ∀ s, s ∈ ranks l len ↔ s < len ∧ 0 < l.getD s 0 := fun s => by
    rw [(ranks_perm l len).mem_iff, List.mem_filter, List.mem_range]
    unfold posB
    rw [decide_eq_true_eq]
  have hR : ∀ r (hr : r < (ranks l len).length), lenS l len (k + 1) (ranks l len)[r] = cntR f r k := fun r hr => (hS _).trans (sumC_rank l len f r hr k)
  have hf2 : ∀ j, j ≤ k → f j ≤ n := fun j hj => by rw [← hn]; exact hf.few j hj
  have hoff : ∀ s, ¬ (s < len ∧ 0 < l.getD s 0) → lenS l len (k + 1) s = 0 := fun s hs => (hS s).trans (sumC_off l len f s (fun h => hs ((hmem s).1 h)) k)
  have h1 := kraft_sum ((List.range len).map (lenS l len (k + 1)))
  rw [List.map_map, List.map_map] at h1
  refine Eq.trans h1 ?_
  rw [← sum_filter (p := posB l) (List.range len) (fun s _ hp => by
    have hp : ¬ 0 < l.getD s 0 := of_decide_eq_false hp
    show wtL (lenS l len (k + 1) s) = 0
    rw [hoff s (fun h => hp h.2)]; rfl), ← (((ranks_perm l len).map (wtL ∘ lenS l len (k + 1))).sum_nat)]
  have h3 := sum_sumR (wtL ∘ lenS l len (k + 1)) (ranks l len) _ (Nat.le_refl _)
  rw [List.take_length] at h3
  rw [h3, hrl]
  have h4 := kraft_levels (by omega) hf.mono hf2 hf.worth
  rw [sumR_congr (h := fun r => 2 ^ (15 - (k + 1)) * 2 ^ (k + 1 - cntR f r k)) n fun r hr => ?_, sumR_mul, h4, ← Nat.pow_add, show 15 - (k + 1) + (k + 1) = 15 by omega]
  have hr2 : r < (ranks l len).length := by omega
  have hc1 := levels_all h2 hf.mono hf2 hf.worth hr
  have hc2 := cntR_le f r k
  show wtL (lenS l len (k + 1) ((ranks l len).getD r 0)) = _
  rw [show (ranks l len).getD r 0 = (ranks l len)[r] by simp [List.getD, hr2], hR r hr2]
  unfold wtL
  rw [if_pos (by omega), ← Nat.pow_add, show 15 - (k + 1) + (k + 1 - cntR f r k) = 15 - cntR f r k by omega]
theorem getD_nonneg {l : List Int} (h : ∀ x ∈ l, 0 ≤ x) (i : Nat) : 0 ≤ l.getD i 0 := by
  by_cases hi : i < l.length
  · have hg : l.getD i 0 = l[i] := by simp [List.getD, hi]
    rw [hg]; exact h _ (List.getElem_mem hi)
  · have hg : l.getD i 0 = 0 := by simp [List.getD, hi]
    rw [hg]; exact Int.le_refl _

/-- How often a symbol comes. -/
def ofN (l : List Int) (s : Nat) : Nat := (l.getD s 0).toNat
/-- What an assignment of lengths is worth, and costs, for the symbols below i. -/
def krA (l : List Int) (most : Nat) (asg : Nat → Nat) : Nat → Nat
  | 0 => 0
  | i + 1 => if ofN l i = 0 then krA l most asg i else krA l most asg i + 2 ^ (most - asg i)
def coA (l : List Int) (asg : Nat → Nat) : Nat → Nat
  | 0 => 0
  | i + 1 => coA l asg i + ofN l i * asg i
/-- The document's table: the least cost of each worth. -/
def noneN : Nat := 4611686018427387904
def lenGo (b : Nat → Nat) (o most k : Nat) : Nat → Nat
  | 0 => noneN
  | t + 1 => if 2 ^ (most - (t + 1)) ≤ k ∧ b (k - 2 ^ (most - (t + 1))) < noneN ∧ b (k - 2 ^ (most - (t + 1))) + o * (t + 1) < lenGo b o most k t then b (k - 2 ^ (most - (t + 1))) + o * (t + 1) else lenGo b o most k t
def bestF (l : List Int) (most : Nat) : Nat → Nat → Nat
  | 0, k => if k = 0 then 0 else noneN
  | i + 1, k => if ofN l i = 0 then bestF l most i k else lenGo (bestF l most i) (ofN l i) most k most
def minGo (b : Nat → Nat) : Nat → Nat
  | 0 => b 0
  | k + 1 => min (minGo b k) (b (k + 1))
theorem lenGo_top (b : Nat → Nat) (o most k : Nat) : ∀ t, lenGo b o most k t ≤ noneN
  | 0 => Nat.le_refl _
  | t + 1 => by
    have := lenGo_top b o most k t
    rw [lenGo]
    split
    · rename_i h; omega
    · exact this
theorem lenGo_le (b : Nat → Nat) (o most k : Nat) : ∀ t t', 1 ≤ t' → t' ≤ t → 2 ^ (most - t') ≤ k → b (k - 2 ^ (most - t')) < noneN → lenGo b o most k t ≤ b (k - 2 ^ (most - t')) + o * t'
  | 0, t', h1, h2, _, _ => by omega
  | t + 1, t', h1, h2, h3, h4 => by
    rw [lenGo]
    by_cases e : t' = t + 1
    · subst e
      split
      · exact Nat.le_refl _
      · rename_i h
        have : ¬ b (k - 2 ^ (most - (t + 1))) + o * (t + 1) < lenGo b o most k t := fun hh => h ⟨h3, h4, hh⟩
        omega
    · have ih := lenGo_le b o most k t t' h1 (by omega) h3 h4
      split
      · rename_i h; omega
      · exact ih
theorem lenGo_mem (b : Nat → Nat) (o most k : Nat) : ∀ t, lenGo b o most k t < noneN → ∃ t', 1 ≤ t' ∧ t' ≤ t ∧ 2 ^ (most - t') ≤ k ∧ b (k - 2 ^ (most - t')) < noneN ∧ lenGo b o most k t = b (k - 2 ^ (most - t')) + o * t'
  | 0, h => by simp [lenGo] at h
  | t + 1, h => by
    rw [lenGo] at h ⊢
    split
    · rename_i hc
      exact ⟨t + 1, by omega, Nat.le_refl _, hc.1, hc.2.1, rfl⟩
    · rename_i hc
      rw [if_neg hc] at h
      obtain ⟨t', h1, h2, h3⟩ := lenGo_mem b o most k t h
      exact ⟨t', h1, by omega, h3⟩
theorem krA_congr {l : List Int} {most : Nat} {a b : Nat → Nat} : ∀ i, (∀ s, s < i → a s = b s) → krA l most a i = krA l most b i
  | 0, _ => rfl
  | i + 1, h => by rw [krA, krA, krA_congr i (fun s hs => h s (by omega)), h i (by omega)]
theorem coA_congr {l : List Int} {a b : Nat → Nat} : ∀ i, (∀ s, s < i → a s = b s) → coA l a i = coA l b i
  | 0, _ => rfl
  | i + 1, h => by rw [coA, coA, coA_congr i (fun s hs => h s (by omega)), h i (by omega)]
/-- What stands in the table is what an assignment costs. -/
theorem best_mem (l : List Int) (most : Nat) : ∀ i k, bestF l most i k < noneN → ∃ asg : Nat → Nat, (∀ s, s < i → ofN l s ≠ 0 → 1 ≤ asg s ∧ asg s ≤ most) ∧ krA l most asg i = k ∧ coA l asg i = bestF l most i k
  | 0, k, h => by
    unfold bestF at h
    have hk : k = 0 := by
      by_cases hk : k = 0
      · exact hk
      · rw [if_neg hk] at h; exact absurd h (Nat.lt_irrefl _)
    exact ⟨fun _ => 0, fun s hs => by omega, by rw [hk]; rfl, by rw [hk]; rfl⟩
  | i + 1, k, h => by
    rw [bestF] at h ⊢
    by_cases ho : ofN l i = 0
    · rw [if_pos ho] at h ⊢
      obtain ⟨asg, h1, h2, h3⟩ := best_mem l most i k h
      refine ⟨asg, fun s hs hn => ?_, ?_, ?_⟩
      · rcases (show s < i ∨ s = i by omega) with e | e
        · exact h1 s e hn
        · subst e; exact absurd ho hn
      · rw [krA, if_pos ho, h2]
      · rw [coA, ho, h3]; omega
    · rw [if_neg ho] at h ⊢
      obtain ⟨t, t1, t2, t3, t4, t5⟩ := lenGo_mem _ _ _ _ _ h
      obtain ⟨asg, h1, h2, h3⟩ := best_mem l most i _ t4
      have hc : ∀ s, s < i → (fun s => if s = i then t else asg s) s = asg s := fun s hs => if_neg (by omega)
      refine ⟨fun s => if s = i then t else asg s, fun s hs hn => ?_, ?_, ?_⟩
      · rcases (show s < i ∨ s = i by omega) with e | e
        · simp only [if_neg (show ¬ s = i by omega)]; exact h1 s e hn
        · subst e; simp only [if_pos]; exact ⟨t1, t2⟩
      · rw [krA, if_neg ho, krA_congr i hc, h2]
        simp only [if_pos]; omega
      · rw [coA, coA_congr i hc, h3, t5]
        simp only [if_pos]
theorem coA_bound {l : List Int} {asg : Nat → Nat} (ho : ∀ s, ofN l s ≤ 1099511627776) : ∀ i, (∀ s, s < i → ofN l s ≠ 0 → asg s ≤ 15) → coA l asg i ≤ i * 16492674416640
  | 0, _ => by simp [coA]
  | i + 1, h => by
    have ih := coA_bound ho i (fun s hs => h s (by omega))
    have h1 := ho i
    rw [coA, Nat.succ_mul]
    by_cases h0 : ofN l i = 0
    · rw [h0]; omega
    · have h2 := h i (by omega) h0
      have h3 : ofN l i * asg i ≤ 1099511627776 * 15 := Nat.mul_le_mul h1 h2
      omega
/-- No assignment costs less than what stands in the table. -/
theorem best_le {l : List Int} {most : Nat} (hm : most ≤ 15) (ho : ∀ s, ofN l s ≤ 1099511627776) {asg : Nat → Nat} : ∀ i, i ≤ 320 → (∀ s, s < i → ofN l s ≠ 0 → 1 ≤ asg s ∧ asg s ≤ most) → bestF l most i (krA l most asg i) ≤ coA l asg i
  | 0, _, _ => by simp [bestF, krA, coA]
  | i + 1, h320, h => by
    have ih := best_le hm ho (asg := asg) i (by omega) (fun s hs => h s (by omega))
    have hb := coA_bound (asg := asg) ho i (fun s hs hn => by have := (h s (by omega) hn).2; omega)
    have hlt : bestF l most i (krA l most asg i) < noneN := by
      have h5 : i * 16492674416640 ≤ 320 * 16492674416640 := Nat.mul_le_mul_right _ (by omega)
      unfold noneN; omega
    rw [bestF, krA, coA]
    by_cases h0 : ofN l i = 0
    · rw [if_pos h0, if_pos h0, h0]; omega
    · rw [if_neg h0, if_neg h0]
      obtain ⟨h1, h2⟩ := h i (by omega) h0
      have e : krA l most asg i + 2 ^ (most - asg i) - 2 ^ (most - asg i) = krA l most asg i := Nat.add_sub_cancel ..
      have := lenGo_le (bestF l most i) (ofN l i) most (krA l most asg i + 2 ^ (most - asg i)) most (asg i) h1 h2 (Nat.le_add_left ..) (by rw [e]; exact hlt)
      rw [e] at this
      omega
theorem minGo_le (b : Nat → Nat) : ∀ n k, k ≤ n → minGo b n ≤ b k
  | 0, k, h => by obtain rfl : k = 0 := by omega
                  exact Nat.le_refl _
  | n + 1, k, h => by
    rw [minGo]
    by_cases e : k = n + 1
    · subst e; exact Nat.min_le_right ..
    · exact Nat.le_trans (Nat.min_le_left ..) (minGo_le b n k (by omega))
theorem minGo_mem (b : Nat → Nat) : ∀ n, ∃ k, k ≤ n ∧ minGo b n = b k
  | 0 => ⟨0, Nat.le_refl _, rfl⟩
  | n + 1 => by
    obtain ⟨k, h1, h2⟩ := minGo_mem b n
    rw [minGo]
    rcases Nat.le_total (minGo b n) (b (n + 1)) with h | h
    · exact ⟨k, by omega, by rw [Nat.min_eq_left h, h2]⟩
    · exact ⟨n + 1, Nat.le_refl _, Nat.min_eq_right h⟩
/-! Sums over leaves and over symbols. -/
theorem leaf_pow (l : List Int) (most : Nat) (asg : Nat → Nat) (hp : ∀ x ∈ l, 0 ≤ x) : ∀ i, ((lvM l i).map fun m => 2 ^ (most - asg (syM m))).sum = krA l most asg i
  | 0 => rfl
  | i + 1 => by
    have ih := leaf_pow l most asg hp i
    have hx : 0 ≤ l.getD i 0 := getD_nonneg hp i
    unfold lvM krA ofN
    by_cases h : 0 < l.getD i 0
    · rw [if_pos h, if_neg (by omega), List.map_append, List.sum_append, ih]; simp [syM]
    · rw [if_neg h, if_pos (by omega), ih]
theorem leaf_cost (l : List Int) (asg : Nat → Nat) (hp : ∀ x ∈ l, 0 ≤ x) : ∀ i, ((lvM l i).map fun m => m.1 * asg (syM m)).sum = coA l asg i
  | 0 => rfl
  | i + 1 => by
    have ih := leaf_cost l asg hp i
    have hx : 0 ≤ l.getD i 0 := getD_nonneg hp i
    unfold lvM coA
    by_cases h : 0 < l.getD i 0
    · rw [if_pos h, List.map_append, List.sum_append, ih]; simp [syM, ofN]
    · rw [if_neg h, ih]
      have : ofN l i = 0 := by unfold ofN; omega
      rw [this]; omega
/-- A node weighs what its symbols do. -/
def NdOk (l : List Int) (m : NdM) : Prop := m.1 = (m.2.map (ofN l)).sum
theorem lvM_nd (l : List Int) : ∀ i, ∀ m ∈ lvM l i, NdOk l m
  | 0, m, h => by simp [lvM] at h
  | i + 1, m, h => by
    unfold lvM at h
    split at h
    · rcases List.mem_append.1 h with e | e
      · exact lvM_nd l i m e
      · simp only [List.mem_singleton] at e
        subst e
        simp [NdOk, ofN]
    · exact lvM_nd l i m h
theorem prM_nd (l : List Int) : ∀ M : List NdM, (∀ m ∈ M, NdOk l m) → ∀ m ∈ prM M, NdOk l m
  | [], _, m, h => by simp [prM] at h
  | [x], _, m, h => by simp [prM] at h
  | a :: b :: r, hM, m, h => by
    have h2 : m = (a.1 + b.1, a.2 ++ b.2) ∨ m ∈ prM r := by simpa [prM] using h
    rcases h2 with rfl | h2
    · have ha := hM a (by simp)
      have hb := hM b (by simp)
      unfold NdOk at *
      simp only [List.map_append, List.sum_append]
      omega
    · exact prM_nd l r (fun x hx => hM x (by simp [hx])) m h2
theorem lvlM_nd {l : List Int} {M : List NdM} (h : ∀ m ∈ M, NdOk l m) : ∀ k, ∀ m ∈ lvlM M k, NdOk l m
  | 0, m, hm => h m ((sortL_mem mLt M m).1 hm)
  | k + 1, m, hm => by
    rcases List.mem_append.1 ((sortL_mem mLt (M ++ prM (lvlM M k)) m).1 hm) with e | e
    · exact h m e
    · exact prM_nd l _ (lvlM_nd h k) m e
theorem wgt_flat (l : List Int) : ∀ C : List NdM, (∀ m ∈ C, NdOk l m) → wgt C = ((flatS C).map (ofN l)).sum
  | [], _ => rfl
  | m :: C, h => by
    have h1 := h m (List.mem_cons_self ..)
    have h2 := wgt_flat l C (fun x hx => h x (List.mem_cons_of_mem _ hx))
    have e : flatS (m :: C) = m.2 ++ flatS C := rfl
    rw [wgt_cons, h2, e, List.map_append, List.sum_append]
    unfold NdOk at h1
    omega
theorem coA_zero (l : List Int) : ∀ i, coA l (fun _ => 0) i = 0
  | 0 => rfl
  | i + 1 => by rw [coA, coA_zero l i]; omega
theorem coA_add (l : List Int) (x : Nat) (c : Nat → Nat) : ∀ i, coA l (fun s => c s + if x = s then 1 else 0) i = coA l c i + if x < i then ofN l x else 0
  | 0 => by simp [coA]
  | i + 1 => by
    rw [coA, coA, coA_add l x c i, Nat.mul_add]
    by_cases e : x = i
    · subst e; simp; omega
    · rw [if_neg e]
      by_cases h : x < i
      · rw [if_pos h, if_pos (by omega)]; omega
      · rw [if_neg h, if_neg (by omega)]; omega
theorem flat_cost (l : List Int) (len : Nat) : ∀ F : List Nat, (∀ s ∈ F, s < len) → (F.map (ofN l)).sum = coA l (fun s => F.count s) len
  | [], _ => by simp only [List.count_nil]; rw [coA_zero]; rfl
  | x :: F, h => by
    have ih := flat_cost l len F (fun s hs => h s (List.mem_cons_of_mem _ hs))
    have hx := h x (List.mem_cons_self ..)
    have e : (fun s => (x :: F).count s) = fun s => F.count s + if x = s then 1 else 0 := by
      funext s
      rw [List.count_cons]
      by_cases hs : x = s
      · simp [hs]
      · simp [hs]
    rw [e, coA_add, if_pos hx, List.map_cons, List.sum_cons, ih]; omega

theorem pos_le {l : List Int} {a b : Nat → Nat} : ∀ i, (∀ s, s < i → ofN l s ≠ 0 → a s ≤ b s) → coA l a i ≤ coA l b i
  | 0, _ => Nat.le_refl _
  | i + 1, h => by
    have ih := pos_le i (fun s hs => h s (by omega))
    rw [coA, coA]
    by_cases h0 : ofN l i = 0
    · rw [h0]; omega
    · have := Nat.mul_le_mul_left (ofN l i) (h i (by omega) h0)
      omega
theorem wt_sum {l : List Int} {most : Nat} {asg : Nat → Nat} (hm : most ≤ 15) : ∀ i, (∀ s, s < i → ofN l s ≠ 0 → 1 ≤ asg s ∧ asg s ≤ most) → (∀ s, s < i → ofN l s = 0 → asg s = 0) → (((List.range i).map asg).map wtL).sum = krA l most asg i * 2 ^ (15 - most)
  | 0, _, _ => by simp [krA]
  | i + 1, h1, h2 => by
    have ih := wt_sum hm i (fun s hs => h1 s (by omega)) (fun s hs => h2 s (by omega))
    rw [List.range_succ, List.map_append, List.map_append, List.sum_append, ih, krA]
    by_cases h0 : ofN l i = 0
    · rw [if_pos h0]
      simp [h2 i (by omega) h0, wtL]
    · obtain ⟨k1, k2⟩ := h1 i (by omega) h0
      rw [if_neg h0, Nat.add_mul, ← Nat.pow_add]
      simp only [List.map_cons, List.map_nil, List.sum_cons, List.sum_nil, Nat.add_zero]
      have e : most - asg i + (15 - most) = 15 - asg i := by omega
      rw [e]
      unfold wtL
      rw [if_pos (by omega)]
/-- What the document reckons is what package-merge costs. -/
theorem least_is {l : List Int} {len most : Nat} (hl : l.length = len) (h320 : len ≤ 320) (hok : ∀ x ∈ l, oftB x = true) (hm1 : 1 ≤ most) (hm : most ≤ 15) (hp : (lvM l len).length ≤ 2 ^ most) :
    minGo (bestF l most len) (2 ^ most) = coA l (manyF l len most) len := by
  have hpos : ∀ x ∈ l, 0 ≤ x := fun x hx => (of_decide_eq_true (hok x hx)).1
  have ho : ∀ s, ofN l s ≤ 1099511627776 := fun s => by
    unfold ofN
    by_cases h : s < l.length
    · have hg : l.getD s 0 = l[s] := by simp [List.getD, h]
      have := (of_decide_eq_true (hok l[s] (List.getElem_mem h))).2
      rw [hg]; omega
    · have hg : l.getD s 0 = 0 := by simp [List.getD, h]
      rw [hg]; decide
  have hof : ∀ s, ofN l s ≠ 0 ↔ 0 < l.getD s 0 := fun s => by unfold ofN; omega
  obtain ⟨g1, g2, g3, g4⟩ := many_ok hm1 hm hp
  have hval : ∀ s, s < len → ofN l s ≠ 0 → 1 ≤ manyF l len most s ∧ manyF l len most s ≤ most := fun s hs hn => g1 s hs ((hof s).1 hn)
  -- what it is worth
  have hkr : krA l most (manyF l len most) len ≤ 2 ^ most := by
    by_cases h1 : (lvM l len).length ≤ 1
    · have e := leaf_pow l most (manyF l len most) hpos len
      rw [← e]
      have := sum_le_mul (f := fun m => 2 ^ (most - manyF l len most (syM m))) (c := 2 ^ most) (lvM l len) (fun m _ => Nat.pow_le_pow_right (by decide) (by omega))
      have h2 : (lvM l len).length * 2 ^ most ≤ 1 * 2 ^ most := Nat.mul_le_mul_right _ h1
      omega
    · obtain ⟨k, rfl⟩ : ∃ k, most = k + 1 := ⟨most - 1, by omega⟩
      have e : ∀ s, manyF l len (k + 1) s = lenS l len (k + 1) s := fun s => if_neg h1
      have hks := pkg_kraft hm (by omega) hp
      have h3 := kraft_sum ((List.range len).map (lenS l len (k + 1)))
      rw [List.map_map] at h3
      have h4 : kraftS ((List.range len).map fun s => ((lenS l len (k + 1) s : Nat) : Int)) 16 = (((List.range len).map (lenS l len (k + 1))).map wtL).sum := h3
      rw [hks, wt_sum hm len (fun s hs hn => by rw [← e]; exact hval s hs hn) (fun s hs hn => by rw [← e]; exact g2 s (fun h => (hof s).2 h.2 hn))] at h4
      have e2 : manyF l len (k + 1) = lenS l len (k + 1) := funext e
      rw [e2]
      have h5 : (32768 : Nat) = 2 ^ (k + 1) * 2 ^ (15 - (k + 1)) := by rw [← Nat.pow_add, show k + 1 + (15 - (k + 1)) = 15 by omega]
      rw [h5] at h4
      exact Nat.le_of_eq (Nat.eq_of_mul_eq_mul_right (Nat.two_pow_pos _) h4).symm
  have hup : minGo (bestF l most len) (2 ^ most) ≤ coA l (manyF l len most) len := Nat.le_trans (minGo_le _ _ _ hkr) (best_le hm ho len h320 hval)
  have hbd := coA_bound (asg := manyF l len most) ho len (fun s hs hn => by have := (hval s hs hn).2; omega)
  obtain ⟨k, hk, hmin⟩ := minGo_mem (bestF l most len) (2 ^ most)
  have hlt : bestF l most len k < noneN := by
    have h5 : len * 16492674416640 ≤ 320 * 16492674416640 := Nat.mul_le_mul_right _ h320
    rw [← hmin]; unfold noneN; omega
  obtain ⟨asg, a1, a2, a3⟩ := best_mem l most len k hlt
  refine Nat.le_antisymm hup ?_
  rw [hmin, ← a3]
  by_cases h1 : (lvM l len).length ≤ 1
  · refine pos_le len fun s hs hn => ?_
    have e : manyF l len most s = (flatS (lvM l len)).count s := if_pos h1
    rw [e, flat_cnt]
    have := (a1 s hs hn).1
    split <;> omega
  · have e : manyF l len most = fun s => (flatS (chosen (lvM l len) most)).count s := by
      funext s; unfold manyF lenS; rw [if_neg h1]
    have hfl : ∀ s ∈ flatS (chosen (lvM l len) most), s < len := fun s hs => by
      obtain ⟨m, hm', hs'⟩ := List.mem_flatMap.1 hs
      exact lvlM_sym (lvM_sym l len) (most - 1) m (List.mem_of_mem_take hm') s hs'
    have hw := wgt_flat l (chosen (lvM l len) most) (fun m hm' => lvlM_nd (lvM_nd l len) (most - 1) m (List.mem_of_mem_take hm'))
    rw [e, ← flat_cost l len _ hfl, ← hw]
    have hlv : ∀ m ∈ lvM l len, syM m < len ∧ ofN l (syM m) ≠ 0 := fun m hm' => by
      rw [lvM_eq] at hm'
      obtain ⟨s, hs, rfl⟩ := List.mem_map.1 hm'
      have h2 := List.mem_filter.1 hs
      exact ⟨List.mem_range.1 h2.1, (hof s).2 (of_decide_eq_true h2.2)⟩
    have := least_plain (M := lvM l len) hm1 (fun m => asg (syM m)) (fun m hm' => (a1 _ (hlv m hm').1 (hlv m hm').2).2) (by rw [leaf_pow l most asg hpos, a2]; exact hk)
    rw [leaf_cost l asg hpos] at this
    exact this
end Go.Proofs.Ytcacnidlfjglbaa
/- The document's Least (contract of the function). -/
namespace Go.Proofs.Ytcacnidlfjglbaa
open Go.RowKit Go.Conc
set_option linter.unusedVariables false
/-- A row of numbers. -/
def arrN (n : Nat) (f : Nat → Nat) : Array Value := ((List.range n).map fun j => Value.int .i64 ((f j : Nat) : Int)).toArray
theorem arrN_get {n : Nat} (f : Nat → Nat) {j : Nat} (h : j < n) : (arrN n f)[j]? = some (.int .i64 ((f j : Nat) : Int)) := by simp [arrN, h]
theorem arrN_congr {n : Nat} {f g : Nat → Nat} (h : ∀ j, j < n → f j = g j) : arrN n f = arrN n g := by
  unfold arrN
  congr 1
  apply List.map_congr_left
  intro j hj
  rw [h j (List.mem_range.1 hj)]
theorem arrN_set (n : Nat) (f : Nat → Nat) (k v : Nat) : (arrN n f).setIfInBounds k (.int .i64 ((v : Nat) : Int)) = arrN n fun j => if j = k then v else f j := by
  apply Array.ext_getElem?
  intro j
  rw [Array.getElem?_setIfInBounds]
  by_cases hj : j < n
  · rw [arrN_get _ hj]
    by_cases e : k = j
    · subst e; simp [arrN, hj]
    · rw [if_neg e, arrN_get _ hj, if_neg (fun h => e h.symm)]
  · have h1 : (arrN n f)[j]? = none := by simp [arrN]; omega
    have h2 : (arrN n fun j => if j = k then v else f j)[j]? = none := by simp [arrN]; omega
    rw [h1, h2]
    by_cases e : k = j
    · subst e; simp [arrN, hj]
    · rw [if_neg e]
theorem cArr_zeros (l : List Int) (n : Nat) : cArr l n 0 = arrN n fun _ => 0 := by
  rw [lenArr_zero]
  unfold lenArr arrN
  simp
theorem best_top (l : List Int) (most : Nat) : ∀ i k, bestF l most i k ≤ noneN
  | 0, k => by unfold bestF; split <;> simp [noneN]
  | i + 1, k => by
    rw [bestF]
    split
    · exact best_top l most i k
    · exact lenGo_top _ _ _ _ _
theorem bestF_bound {l : List Int} {most : Nat} (ho : ∀ s, ofN l s ≤ 1099511627776) (hm : most ≤ 15) : ∀ i k, bestF l most i k < noneN → bestF l most i k ≤ i * 16492674416640 := fun i k h => by
  obtain ⟨asg, h1, h2, h3⟩ := best_mem l most i k h
  rw [← h3]
  exact coA_bound ho i fun s hs hn => by have := (h1 s hs hn).2; omega
set_option maxRecDepth 100000 in
set_option maxHeartbeats 8000000 in
theorem least_any (a : Option Addr) (len cap most : Nat) (l : List Int) (hll : Hid (l.length = len)) (h30 : len ≤ 30) (hok : ∀ x ∈ l, oftB x = true) (hm1 : 1 ≤ most) (hm8 : most ≤ 8) (w : World) (hst : ZsAt w a l) :
    Calls Try.prog 10 #[.slice a len cap, .int .i64 most] w fun e w' => e = .returned (.int .i64 ((minGo (bestF l most len) (2 ^ most) : Nat) : Int)) ∧ Bw w w' := by
  obtain ⟨hwp, _⟩ := pow_facts most (by omega)
  have hS8 : 2 ^ most ≤ 2 ^ 8 := Nat.pow_le_pow_right (by decide) hm8
  have hS1 := Nat.two_pow_pos most
  obtain ⟨S, hS⟩ : ∃ S, 2 ^ most = S := ⟨_, rfl⟩
  rw [hS] at hwp hS8 hS1
  have hS256 : S ≤ 256 := hS8
  have HS := hid hS
  have HST := hid hst
  have hofl : ∀ s, ofN l s ≤ 1099511627776 := fun s => by
    unfold ofN
    by_cases h : s < l.length
    · have hg : l.getD s 0 = l[s] := by simp [List.getD, h]
      have := (of_decide_eq_true (hok l[s] (List.getElem_mem h))).2
      rw [hg]; omega
    · have hg : l.getD s 0 = 0 := by simp [List.getD, h]
      rw [hg]; decide
  have HOF := hid hofl
  have HOK := hid hok
  have HBD := hid (fun i k h => bestF_bound hofl (show most ≤ 15 by omega) i k h)
  have hmk := fun W => make_ints l (S + 1) (by omega) W
  rw [cArr_zeros] at hmk
  rw [show ((S + 1 : Nat) : Int) = (S : Int) + 1 by omega] at hmk
  rw [hS]
  clear hS hst hofl hok hS8
  go_enter Try.func10, Try.ntmps10
  go_wp2_with fail
  have HN0 := hid (Has.new w 3 (arrN (S + 1) fun _ => 0))
  have HB0 := hid ((Bw.refl w).alloc (.cells (arrN (S + 1) fun _ => 0) 3))
  go_loopw [8] (fun vk wr => ∃ k : Nat, vk = .int .i64 k ∧ 1 ≤ k ∧ k ≤ S + 1 ∧ Has wr w.heap.size 3 (arrN (S + 1) fun j => if j = 0 then 0 else if j < k then noneN else 0) ∧ Bw w wr) (fun vk _ => S + 1 - (intOf vk).toNat)
  case atStart => exact ⟨1, rfl, Nat.le_refl _, by omega, by rw [arrN_congr (f := fun j => if j = 0 then 0 else if j < 1 then noneN else 0) (g := fun _ => 0) (fun j hj => by by_cases e : j = 0 <;> simp [e])]; exact HN0.out, HB0.out⟩
  case round =>
    obtain ⟨k, rfl, hk1, hk2, hH, hbw⟩ := hrel
    rename World => wr
    by_cases hlt : k ≤ S
    · have hlti : (k : Int) ≤ S := by omega
      have hck := (hH.cell k).trans (arrN_get _ (show k < S + 1 by omega))
      have hfk := hH.frozen k
      have HP := hid (hH.put k (.int .i64 ((noneN : Nat) : Int)))
      rw [arrN_set, arrN_congr (g := fun j => if j = 0 then 0 else if j < k + 1 then noneN else 0) (fun j hj => by by_cases e : j = k <;> by_cases e2 : j = 0 <;> by_cases e3 : j < k <;> simp [e, e2, e3] <;> omega)] at HP
      have HB := hid (hbw.setCell (p := ⟨w.heap.size, k, none⟩) (Nat.le_refl _) (.int .i64 ((noneN : Nat) : Int)))
      clear hH hbw
      go_wp2
      go_roundw
      case rel => exact ⟨k + 1, by go_num, by omega, by omega, HP.out, HB.out⟩
      case measure => simp [intOf]; omega
    · have hlti : ¬ (k : Int) ≤ S := by omega
      obtain rfl : k = S + 1 := by omega
      have HB1 := hid (show Has wr w.heap.size 3 (arrN (S + 1) (bestF l most 0)) from by
        rw [arrN_congr (g := fun j => if j = 0 then 0 else if j < S + 1 then noneN else 0) (fun j hj => by unfold bestF; by_cases e : j = 0 <;> simp [e, hj])]; exact hH)
      have HBW1 := hid hbw
      clear hH hbw
      go_wp2
      go_loopw [7, 9] (fun vb vi wq => ∃ (i b : Nat), vb = .slice (some ⟨b, 0, none⟩) (S + 1) (S + 1) ∧ vi = .int .i64 i ∧ i ≤ len ∧ w.heap.size ≤ b ∧ Has wq b 3 (arrN (S + 1) (bestF l most i)) ∧ Bw w wq) (fun _ vi _ => len - (intOf vi).toNat)
      case atStart => exact ⟨0, w.heap.size, rfl, rfl, Nat.zero_le _, Nat.le_refl _, HB1.out, HBW1.out⟩
      case round =>
        obtain ⟨i, b, rfl, rfl, hi, hwb, hH, hbw⟩ := hrel
        rename World => wq
        by_cases hlt2 : i < len
        · have hlt2i : (i : Int) < len := by omega
          have hil : i < l.length := by rw [hll.out]; exact hlt2
          obtain ⟨ob, off, rfl, hbl, q0⟩ := HST.out i hil
          have hgi : l.getD i 0 = l[i] := by simp [List.getD, hil]
          have hoi := of_decide_eq_true (HOK.out l[i] (List.getElem_mem hil))
          obtain ⟨o, ho⟩ := Int.eq_ofNat_of_zero_le hoi.1
          have ho' : l[i] = ((o : Nat) : Int) := ho
          have HO := hid (show ofN l i = o by unfold ofN; rw [hgi, ho']; exact Int.toNat_natCast o)
          have ho40 : o ≤ 1099511627776 := by have := hoi.2; omega
          have HX := hid (fun (wz : World) (h : Bw w wz) => show wz.cell? ⟨ob, off + i, none⟩ = some (.int .i64 ((o : Nat) : Int)) from by rw [← ho']; exact (World.cell?_of_block (h.block ob hbl)).trans q0)
          have x0 := HX.out wq hbw
          have HH := hid hH
          have HBW := hid hbw
          have hbz := hbw.size
          have hbq := hH.lt
          clear hH hbw q0 hgi hoi ho ho' hil
          by_cases h0 : o = 0
          · subst h0
            go_wp2
            go_roundw
            case rel => exact ⟨i + 1, b, rfl, by go_num, by omega, hwb, by rw [arrN_congr (g := bestF l most i) (fun j _ => by rw [bestF, if_pos HO.out])]; exact HH.out, HBW.out⟩
            case measure => simp [intOf]; omega
          · have h0i : ((o : Nat) : Int) ≠ 0 := by omega
            have HON := hid (show ofN l i ≠ 0 by rw [HO.out]; exact h0)
            go_wp2_with fail
            have HNX := hid (Has.new wq 3 (arrN (S + 1) fun _ => 0))
            have HHB := hid (HH.out.alloc (.cells (arrN (S + 1) fun _ => 0) 3))
            have HBA := hid (HBW.out.alloc (.cells (arrN (S + 1) fun _ => 0) 3))
            clear x0
            obtain ⟨nb, hnb⟩ : ∃ nb, wq.heap.size = nb := ⟨_, rfl⟩
            rw [hnb] at HNX hbz hbq ⊢
            have HNB := hid hnb
            clear hnb
            obtain ⟨B, hBe⟩ : ∃ B, bestF l most i = B := ⟨_, rfl⟩
            have HBE := hid hBe
            have HBB := hid (fun k (h : B k < noneN) => show B k ≤ i * 16492674416640 from by rw [← hBe] at h ⊢; exact HBD.out i k h)
            rw [hBe] at HHB
            clear hBe
            go_loopw [11] (fun vk w3 => ∃ k : Nat, vk = .int .i64 k ∧ k ≤ S + 1 ∧ Has w3 nb 3 (arrN (S + 1) fun j => if j < k then lenGo B o most j most else 0) ∧ Has w3 b 3 (arrN (S + 1) B) ∧ Bw w w3) (fun vk _ => S + 1 - (intOf vk).toNat)
            case atStart => exact ⟨0, rfl, by omega, by rw [arrN_congr (f := fun j => if j < 0 then lenGo B o most j most else 0) (g := fun _ => 0) (fun j _ => if_neg (by omega))]; exact HNX.out, HHB.out, HBA.out⟩
            case round =>
              obtain ⟨k, rfl, hk, hN, hB, hb3⟩ := hrel
              rename World => w3
              by_cases hlk : k ≤ S
              · have hlki : (k : Int) ≤ S := by omega
                have hck := (hN.cell k).trans (arrN_get _ (show k < S + 1 by omega))
                have hfk := hN.frozen k
                have HP := hid (hN.put k (.int .i64 ((noneN : Nat) : Int)))
                rw [arrN_set] at HP
                have HPB := hid (hB.far (p := ⟨nb, k, none⟩) (show b ≠ nb by omega) (.int .i64 ((noneN : Nat) : Int)))
                have HPW := hid (hb3.setCell (p := ⟨nb, k, none⟩) (show w.heap.size ≤ nb from hbz) (.int .i64 ((noneN : Nat) : Int)))
                clear hN hB hb3
                go_wp2_with fail
                go_loopw [12] (fun vn w4 => ∃ nn : Nat, vn = .int .i64 nn ∧ 1 ≤ nn ∧ nn ≤ most + 1 ∧ Has w4 nb 3 (arrN (S + 1) fun j => if j = k then lenGo B o most k (nn - 1) else if j < k then lenGo B o most j most else 0) ∧ Has w4 b 3 (arrN (S + 1) B) ∧ Bw w w4) (fun vn _ => most + 1 - (intOf vn).toNat)
                case atStart => exact ⟨1, rfl, Nat.le_refl _, by omega, HP.out, HPB.out, HPW.out⟩
                case round =>
                  obtain ⟨nn, rfl, hn1, hn2, hN, hB, hb4⟩ := hrel
                  rename World => w4
                  by_cases hln : nn ≤ most
                  · have hlni : (nn : Int) ≤ most := by omega
                    obtain ⟨e, he⟩ : ∃ e, most - nn = e := ⟨_, rfl⟩
                    have hE : (most : Int) - nn = (e : Int) := by omega
                    have he8 : e ≤ 8 := by omega
                    obtain ⟨hPw, _⟩ := pow_facts e (by omega)
                    have hP8 : 2 ^ e ≤ 2 ^ 8 := Nat.pow_le_pow_right (by decide) he8
                    obtain ⟨P, hP⟩ : ∃ P, 2 ^ e = P := ⟨_, rfl⟩
                    rw [hP] at hPw hP8
                    have hP256 : P ≤ 256 := hP8
                    have HPE := hid (show 2 ^ (most - (nn - 1 + 1)) = P by rw [show nn - 1 + 1 = nn by omega, he, hP])
                    have HCU := hid (show lenGo B o most k nn = lenGo B o most k (nn - 1 + 1) by rw [show nn - 1 + 1 = nn by omega])
                    have HTOP := hid (lenGo_top B o most k (nn - 1))
                    have hcn := (hN.cell k).trans (arrN_get _ (show k < S + 1 by omega))
                    simp only [if_pos] at hcn
                    have HNN := hid hN
                    have HBB4 := hid hB
                    have HB4 := hid hb4
                    have hfn := hN.frozen k
                    have x4 := HX.out w4 hb4
                    clear hP hP8 he hN
                    by_cases hPk : P ≤ k
                    · obtain ⟨q, hq⟩ : ∃ q, k - P = q := ⟨_, rfl⟩
                      have hqi : (k : Int) - (P : Int) = (q : Int) := by omega
                      have hcq := (hB.cell q).trans (arrN_get B (show q < S + 1 by omega))
                      have hPki : (P : Int) ≤ k := by omega
                      clear hB hb4
                      have HQ := hid hq
                      have gP : decide ((P : Int) ≤ k) = true := decide_eq_true hPki
                      have gP2 : decide (P ≤ k) = true := decide_eq_true hPk
                      by_cases hN : B q < noneN
                      · have hbb := HBB.out q hN
                        have hi30 : i * 16492674416640 ≤ 30 * 16492674416640 := Nat.mul_le_mul_right _ (by omega)
                        obtain ⟨pr, hpr⟩ : ∃ pr, o * nn = pr := ⟨_, rfl⟩
                        have hpri : ((o : Nat) : Int) * ((nn : Nat) : Int) = (pr : Int) := by rw [← hpr, Int.natCast_mul]
                        have hprb : pr ≤ 1099511627776 * 8 := by rw [← hpr]; exact Nat.mul_le_mul ho40 (by omega)
                        have HPR := hid hpr
                        have HNL := hid hN
                        have htop := HTOP.out
                        unfold noneN at hN htop
                        obtain ⟨bq, hbq⟩ : ∃ bq, B q = bq := ⟨_, rfl⟩
                        have HBQ := hid hbq
                        rw [hbq] at hbb hN hcq
                        obtain ⟨cu, hcu⟩ : ∃ cu, lenGo B o most k (nn - 1) = cu := ⟨_, rfl⟩
                        have HCV := hid hcu
                        rw [hcu] at htop hcn
                        have gN : decide (((bq : Nat) : Int) < 4611686018427387904) = true := decide_eq_true (by omega)
                        have gN2 : decide (bq < 4611686018427387904) = true := decide_eq_true hN
                        clear hbq hcu hpr hq
                        by_cases hL : bq + pr < cu
                        · have gL : decide (((bq : Nat) : Int) + ((pr : Nat) : Int) < ((cu : Nat) : Int)) = true := decide_eq_true (by omega)
                          have HSK := hid (show lenGo B o most k nn = bq + pr by rw [HCU.out, lenGo, HPE.out, HQ.out, HBQ.out, show nn - 1 + 1 = nn by omega, HPR.out, HCV.out, if_pos ⟨hPk, by rw [← HBQ.out]; exact HNL.out, hL⟩])
                          go_wp2_with fail
                          go_quiet (fail)
                          go_wp2_with fail
                          have hcq5 : (w4.drewN nq).drew.cell? ⟨b, q, none⟩ = _ := hcq
                          have hcn5 : (w4.drewN nq).drew.cell? ⟨nb, k, none⟩ = _ := hcn
                          have hfn5 : (w4.drewN nq).drew.frozen? ⟨nb, k, none⟩ = _ := hfn
                          have x45 : (w4.drewN nq).drew.cell? ⟨ob, off + i, none⟩ = _ := x4
                          have hcq6 : (w4.drewN nq).cell? ⟨b, q, none⟩ = _ := hcq
                          have hcn6 : (w4.drewN nq).cell? ⟨nb, k, none⟩ = _ := hcn
                          have hfn6 : (w4.drewN nq).frozen? ⟨nb, k, none⟩ = _ := hfn
                          have x46 : (w4.drewN nq).cell? ⟨ob, off + i, none⟩ = _ := x4
                          have hN5 := hid (HNN.out.drewN nq)
                          have hB5 := hid (HBB4.out.drewN nq)
                          have hW5 := hid (HB4.out.drewN nq)
                          generalize w4.drewN nq = w5 at *
                          have hvc : ((bq : Nat) : Int) + ((pr : Nat) : Int) = ((bq + pr : Nat) : Int) := by omega
                          have HP5 := hid (show Has (w5.setCell ⟨nb, k, none⟩ (.int .i64 (((bq : Nat) : Int) + ((pr : Nat) : Int)))) nb 3 (arrN (S + 1) fun j => if j = k then lenGo B o most k (nn + 1 - 1) else if j < k then lenGo B o most j most else 0) from by
                            have h := hN5.out.put k (.int .i64 ((bq + pr : Nat) : Int))
                            rw [arrN_set] at h
                            have e5 : arrN (S + 1) (fun j => if j = k then bq + pr else if j = k then lenGo B o most k (nn - 1) else if j < k then lenGo B o most j most else 0) = arrN (S + 1) (fun j => if j = k then lenGo B o most k (nn + 1 - 1) else if j < k then lenGo B o most j most else 0) := arrN_congr fun j _ => by
                              by_cases e : j = k
                              · rw [if_pos e, if_pos e, Nat.add_sub_cancel, HSK.out]
                              · rw [if_neg e, if_neg e, if_neg e]
                            rw [e5] at h
                            rw [hvc]
                            exact h)
                          have HPB5 := hid (hB5.out.far (p := ⟨nb, k, none⟩) (show b ≠ nb by omega) (.int .i64 (((bq : Nat) : Int) + ((pr : Nat) : Int))))
                          have HPW5 := hid (hW5.out.setCell (p := ⟨nb, k, none⟩) (show w.heap.size ≤ nb from hbz) (.int .i64 (((bq : Nat) : Int) + ((pr : Nat) : Int))))
                          clear hvc
                          go_region
                          all_goals go_wp2
                          all_goals go_roundw
                          case rel => exact ⟨nn + 1, by go_num, by omega, by omega, HP5.out.drew, HPB5.out.drew, Bw.drewN (show Bw w _ from HPW5.out) 1⟩
                          case measure => simp [intOf]; omega
                        · have gL : decide (((bq : Nat) : Int) + ((pr : Nat) : Int) < ((cu : Nat) : Int)) = false := decide_eq_false (by omega)
                          have HSK := hid (show lenGo B o most k nn = lenGo B o most k (nn - 1) by rw [HCU.out, lenGo, HPE.out, HQ.out, HBQ.out, show nn - 1 + 1 = nn by omega, HPR.out, HCV.out, if_neg (fun h => hL h.2.2)])
                          go_wp2_with fail
                          go_quiet (fail)
                          go_wp2
                          go_roundw
                          case rel => exact ⟨nn + 1, by go_num, by omega, by omega, by rw [Nat.add_sub_cancel, HSK.out]; exact HNN.out.drewN _, HBB4.out.drewN _, HB4.out.drewN _⟩
                          case measure => simp [intOf]; omega
                      · have hN2 := hN
                        unfold noneN at hN2
                        have HSK := hid (show lenGo B o most k nn = lenGo B o most k (nn - 1) by rw [HCU.out, lenGo, HPE.out, HQ.out, if_neg (fun h => hN h.2.1)])
                        obtain ⟨bq, hbq⟩ : ∃ bq, B q = bq := ⟨_, rfl⟩
                        rw [hbq] at hN2 hcq
                        have gN : decide (((bq : Nat) : Int) < 4611686018427387904) = false := decide_eq_false (by omega)
                        have gN2 : decide (bq < 4611686018427387904) = false := decide_eq_false hN2
                        clear hbq hN hq
                        go_wp2_with fail
                        go_quiet (fail)
                        go_wp2
                        go_roundw
                        case rel => exact ⟨nn + 1, by go_num, by omega, by omega, by rw [Nat.add_sub_cancel, HSK.out]; exact HNN.out.drewN _, HBB4.out.drewN _, HB4.out.drewN _⟩
                        case measure => simp [intOf]; omega
                    · have gP : decide ((P : Int) ≤ k) = false := decide_eq_false (by omega)
                      have gP2 : decide (P ≤ k) = false := decide_eq_false hPk
                      have HSK := hid (show lenGo B o most k nn = lenGo B o most k (nn - 1) by rw [HCU.out, lenGo, HPE.out, if_neg (fun h => hPk h.1)])
                      clear hPk hB hb4
                      go_wp2_with fail
                      go_quiet (fail)
                      go_wp2
                      go_roundw
                      case rel => exact ⟨nn + 1, by go_num, by omega, by omega, by rw [Nat.add_sub_cancel, HSK.out]; exact HNN.out.drewN _, HBB4.out.drewN _, HB4.out.drewN _⟩
                      case measure => simp [intOf]; omega
                  · have hlni : ¬ (nn : Int) ≤ most := by omega
                    obtain rfl : nn = most + 1 := by omega
                    have HNN := hid hN
                    have HBB4 := hid hB
                    have HB4 := hid hb4
                    have EK : arrN (S + 1) (fun j => if j < k + 1 then lenGo B o most j most else 0) = arrN (S + 1) (fun j => if j = k then lenGo B o most k (most + 1 - 1) else if j < k then lenGo B o most j most else 0) := arrN_congr fun j _ => by
                      by_cases e : j = k
                      · subst e; rw [if_pos (by omega), if_pos rfl, Nat.add_sub_cancel]
                      · rw [if_neg e]
                        by_cases e2 : j < k
                        · rw [if_pos (by omega), if_pos e2]
                        · rw [if_neg (by omega), if_neg e2]
                    clear hN hB hb4
                    go_wp2
                    go_roundw
                    case rel => exact ⟨k + 1, by go_num, by omega, by rw [EK]; exact HNN.out, HBB4.out, HB4.out⟩
                    case measure => simp [intOf]; omega
              · have hlki : ¬ (k : Int) ≤ S := by omega
                obtain rfl : k = S + 1 := by omega
                have HNN := hid hN
                have HB3 := hid hb3
                clear hN hB hb3
                go_wp2
                go_roundw
                case rel => exact ⟨i + 1, nb, rfl, by go_num, by omega, hbz, by rw [arrN_congr (g := fun j => if j < S + 1 then lenGo B o most j most else 0) (fun j hj => by rw [if_pos hj, bestF, if_neg HON.out, HBE.out, HO.out])]; exact HNN.out, HB3.out⟩
                case measure => simp [intOf]; omega
        · have hlt2i : ¬ (i : Int) < len := by omega
          obtain rfl : i = len := by omega
          have HH := hid hH
          have HBW := hid hbw
          have hc0 := (hH.cell 0).trans (arrN_get (bestF l most i) (show 0 < S + 1 by omega))
          have hmt : ∀ k, k ≤ S → bestF l most i k ≤ noneN := fun k _ => best_top l most i k
          have HMT := hid hmt
          obtain ⟨B, hBe⟩ : ∃ B, bestF l most i = B := ⟨_, rfl⟩
          rw [hBe] at HH hc0 HMT
          have HBE := hid hBe
          have hB0 := HMT.out 0 (by omega)
          unfold noneN at hB0
          clear hH hbw hBe hmt
          go_wp2_with fail
          go_loopw [14, 15] (fun vo vk w5 => ∃ k : Nat, vk = .int .i64 k ∧ 1 ≤ k ∧ k ≤ S + 1 ∧ vo = .int .i64 ((minGo B (k - 1) : Nat) : Int) ∧ w5 = wq) (fun _ vk _ => S + 1 - (intOf vk).toNat)
          case atStart => exact ⟨1, rfl, Nat.le_refl _, by omega, rfl, rfl⟩
          case round =>
            obtain ⟨k, rfl, hk1, hk2, rfl, rfl⟩ := hrel
            rename World => w5
            have hmk1 : minGo B k = min (minGo B (k - 1)) (B k) := by
              obtain ⟨j, rfl⟩ : ∃ j, k = j + 1 := ⟨k - 1, by omega⟩
              rw [Nat.add_sub_cancel]; rfl
            have hm0 := minGo_le B (k - 1) 0 (Nat.zero_le _)
            by_cases hlk : k ≤ S
            · have hlki : (k : Int) ≤ S := by omega
              have hck := (HH.out.cell k).trans (arrN_get B (show k < S + 1 by omega))
              have hBk := HMT.out k hlk
              unfold noneN at hBk
              have HMK := hid hmk1
              clear hmk1
              generalize minGo B (k - 1) = mm at *
              generalize B k = bk at *
              go_wp2
              go_roundw
              case rel => exact ⟨k + 1, by go_num, by omega, by omega, by rw [Nat.add_sub_cancel, HMK.out]; congr 1; omega, trivial⟩
              case measure => simp [intOf]; omega
            · have hlki : ¬ (k : Int) ≤ S := by omega
              obtain rfl : k = S + 1 := by omega
              rw [Nat.add_sub_cancel] at *
              clear hmk1
              go_wp2
              go_returns
              exact ⟨by rw [HBE.out]; rfl, HBW.out⟩
end Go.Proofs.Ytcacnidlfjglbaa
