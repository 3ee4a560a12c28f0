/- Plain: package-merge: the lengths of the symbols. No program in it. -/
import Derived.Test.YtcacnidlfjglbaaPkgB
import Derived.Test.YtcacnidlfjglbaaHufP
namespace Go.Proofs.Ytcacnidlfjglbaa
open Go.RowKit Go.Conc
set_option linter.unusedVariables false
section
variable {α : Type}
theorem insRev_perm (lt : α → α → Bool) (x : α) : ∀ l : List α, (insRev lt x l).Perm (x :: l)
  | [] => .refl _
  | y :: l => by
    unfold insRev
    split
    · exact ((insRev_perm lt x l).cons y).trans (.swap x y l)
    · exact .refl _
theorem fold_perm (lt : α → α → Bool) : ∀ l r : List α, (l.foldl (fun r x => insRev lt x r) r).Perm (l ++ r)
  | [], r => .refl _
  | x :: l, r => (fold_perm lt l _).trans (((insRev_perm lt x r).append_left l).trans List.perm_middle)
theorem sortL_perm (lt : α → α → Bool) (l : List α) : (sortL lt l).Perm l := by
  have := fold_perm lt l []
  rw [List.append_nil] at this
  exact (List.reverse_perm _).trans this
end
def posB (l : List Int) (s : Nat) : Bool := decide (0 < l.getD s 0)
def leafOf (l : List Int) (s : Nat) : NdM := ((l.getD s 0).toNat, [s])
theorem lvM_eq (l : List Int) : ∀ k, lvM l k = ((List.range k).filter (posB l)).map (leafOf l)
  | 0 => rfl
  | k + 1 => by
    rw [List.range_succ, List.filter_append, List.map_append, ← lvM_eq l k]
    show (if 0 < l.getD k 0 then lvM l k ++ [((l.getD k 0).toNat, [k])] else lvM l k) = _
    by_cases h : 0 < l.getD k 0
    · have hp : posB l k = true := decide_eq_true h
      rw [if_pos h, List.filter_cons_of_pos hp]; rfl
    · have hp : ¬ posB l k = true := by unfold posB; simpa using h
      rw [if_neg h, List.filter_cons_of_neg hp]; simp
def syM (m : NdM) : Nat := m.2.headD 0
theorem flatS_map : ∀ C : List NdM, (∀ m ∈ C, m.2 = [syM m]) → flatS C = C.map syM
  | [], _ => rfl
  | c :: C, h => by
    rw [flatS_cons, flatS_map C fun m hm => h m (List.mem_cons_of_mem _ hm), h c (List.mem_cons_self ..)]
    rfl
/-- The symbols, from the lightest on. -/
def ranks (l : List Int) (len : Nat) : List Nat := (sortM (lvM l len)).map syM
theorem ranks_perm (l : List Int) (len : Nat) : (ranks l len).Perm ((List.range len).filter (posB l)) := by
  have h := (sortL_perm mLt (lvM l len)).map syM
  have e : (lvM l len).map syM = (List.range len).filter (posB l) := by
    rw [lvM_eq, List.map_map]
    have : syM ∘ leafOf l = id := rfl
    rw [this, List.map_id]
  rw [e] at h
  exact h
theorem ranks_nodup (l : List Int) (len : Nat) : (ranks l len).Nodup := (ranks_perm l len).nodup_iff.2 (List.nodup_range.filter _)
theorem sorted_leaf (l : List Int) (len : Nat) : ∀ m ∈ sortM (lvM l len), m.2 = [syM m] ∧ m.1 = (l.getD (syM m) 0).toNat := fun m hm => by
  have := (sortL_mem mLt _ m).1 hm
  rw [lvM_eq] at this
  obtain ⟨s, _, rfl⟩ := List.mem_map.1 this
  exact ⟨rfl, rfl⟩
theorem flat_ranks (l : List Int) (len a : Nat) : flatS ((sortM (lvM l len)).take a) = (ranks l len).take a := by
  rw [flatS_map _ fun m hm => (sorted_leaf l len m (List.mem_of_mem_take hm)).1]
  unfold ranks
  rw [List.map_take]
theorem count_take : ∀ (B : List Nat), B.Nodup → ∀ (r a : Nat) (hr : r < B.length), (B.take a).count B[r] = if r < a then 1 else 0
  | [], _, r, a, hr => by simp at hr
  | b :: B, h, r, 0, hr => by simp
  | b :: B, h, 0, a + 1, hr => by
    rw [List.nodup_cons] at h
    rw [List.take_succ_cons]
    show (b :: B.take a).count b = _
    rw [List.count_cons_self, List.count_eq_zero.2 fun hm => h.1 (List.mem_of_mem_take hm)]
    simp
  | b :: B, h, r + 1, a + 1, hr => by
    rw [List.nodup_cons] at h
    have hr2 : r < B.length := by simpa using hr
    have ih := count_take B h.2 r a hr2
    rw [List.take_succ_cons]
    show (b :: B.take a).count B[r] = _
    have hne : ¬ b = B[r] := fun e => h.1 (by rw [e]; exact List.getElem_mem hr2)
    rw [List.count_cons, ih]
    simp [hne]
theorem sumC_rank (l : List Int) (len : Nat) (f : Nat → Nat) (r : Nat) (hr : r < (ranks l len).length) : ∀ k, sumC (lvM l len) f (ranks l len)[r] k = cntR f r k
  | 0 => by
    unfold sumC cntR
    rw [flat_ranks, count_take _ (ranks_nodup l len) r _ hr]
  | k + 1 => by
    unfold sumC cntR
    rw [sumC_rank l len f r hr k, flat_ranks, count_take _ (ranks_nodup l len) r _ hr]
theorem sumC_off (l : List Int) (len : Nat) (f : Nat → Nat) (s : Nat) (hs : ¬ s ∈ ranks l len) : ∀ k, sumC (lvM l len) f s k = 0
  | 0 => by
    unfold sumC
    rw [flat_ranks]
    exact List.count_eq_zero.2 fun hm => hs (List.mem_of_mem_take hm)
  | k + 1 => by
    unfold sumC
    rw [sumC_off l len f s hs k, flat_ranks, List.count_eq_zero.2 fun hm => hs (List.mem_of_mem_take hm)]
theorem sum_filter {g : Nat → Nat} {p : Nat → Bool} : ∀ L : List Nat, (∀ x ∈ L, p x = false → g x = 0) → ((L.filter p).map g).sum = (L.map g).sum
  | [], _ => rfl
  | x :: L, h => by
    have ih := sum_filter L fun y hy => h y (List.mem_cons_of_mem _ hy)
    cases e : p x with
    | true => rw [List.filter_cons_of_pos e, List.map_cons, List.map_cons, List.sum_cons, List.sum_cons, ih]
    | false => rw [List.filter_cons_of_neg (by simp [e]), List.map_cons, List.sum_cons, ih, h x (List.mem_cons_self ..) e, Nat.zero_add]
theorem sum_sumR (g : Nat → Nat) (B : List Nat) : ∀ n, n ≤ B.length → ((B.take n).map g).sum = sumR (fun r => g (B.getD r 0)) n
  | 0, _ => by simp [sumR]
  | n + 1, h => by
    have hn : n < B.length := by omega
    rw [List.take_succ_eq_append_getElem hn, List.map_append, List.sum_append_nat, sum_sumR g B n (by omega)]
    show _ = sumR (fun r => g (B.getD r 0)) n + g (B.getD n 0)
    simp [List.getD, hn]
theorem sumR_mul (c : Nat) (g : Nat → Nat) : ∀ n, sumR (fun r => c * g r) n = c * sumR g n
  | 0 => rfl
  | n + 1 => by unfold sumR; rw [sumR_mul c g n, Nat.mul_add]
/-- What a length is worth. -/
def wtL (n : Nat) : Nat := if 1 ≤ n ∧ n ≤ 15 then 2 ^ (15 - n) else 0
theorem kraft_cons (x : Nat) (L : List Int) : ∀ m, kraftS ((x : Int) :: L) m = kraftS L m + if 1 ≤ x ∧ x < m then 2 ^ (15 - x) else 0
  | 0 => by simp [kraftS]
  | m + 1 => by
    have ih := kraft_cons x L m
    have ht : tal ((x : Int) :: L) m = tal L m + if 1 ≤ x ∧ x = m then 1 else 0 := by
      unfold tal
      by_cases h0 : m = 0
      · rw [if_pos h0, if_pos h0, if_neg (by omega)]
      · rw [if_neg h0, if_neg h0]
        by_cases e : x = m
        · subst e; rw [List.count_cons_self, if_pos ⟨by omega, rfl⟩]
        · rw [List.count_cons_of_ne (by omega), if_neg (fun h => e h.2)]; rfl
    unfold kraftS
    rw [ih, ht]
    by_cases h1 : 1 ≤ x ∧ x < m
    · rw [if_pos h1, if_neg (by omega), if_pos (by omega), Nat.add_zero]; omega
    · by_cases h2 : 1 ≤ x ∧ x = m
      · obtain ⟨h3, rfl⟩ := h2
        rw [if_neg h1, if_pos ⟨h3, rfl⟩, if_pos (by omega), Nat.add_mul]; omega
      · rw [if_neg h1, if_neg h2, if_neg (by omega), Nat.add_zero, Nat.add_zero, Nat.add_zero]
theorem kraft_sum : ∀ S : List Nat, kraftS (S.map fun s => ((s : Nat) : Int)) 16 = (S.map wtL).sum
  | [] => by decide
  | x :: S => by
    rw [List.map_cons, kraft_cons, kraft_sum S, List.map_cons, List.sum_cons, Nat.add_comm]
    congr 1
    unfold wtL
    by_cases h : 1 ≤ x ∧ x < 16
    · rw [if_pos h, if_pos (by omega)]
    · rw [if_neg h, if_neg (by omega)]
/-- The length of a symbol. -/
def lenS (l : List Int) (len most : Nat) (s : Nat) : Nat := (flatS (chosen (lvM l len) most)).count s
theorem pkg {l : List Int} {len k : Nat} (h15 : k + 1 ≤ 15) (h2 : 2 ≤ (lvM l len).length) (hm : (lvM l len).length ≤ 2 ^ (k + 1)) :
    (∀ s, s < len → 0 < l.getD s 0 → 1 ≤ lenS l len (k + 1) s ∧ lenS l len (k + 1) s ≤ k + 1) ∧ (∀ s, ¬ (s < len ∧ 0 < l.getD s 0) → lenS l len (k + 1) s = 0) ∧
    (∀ s q, s < len → q < len → 0 < l.getD s 0 → l.getD s 0 < l.getD q 0 → lenS l len (k + 1) q ≤ lenS l len (k + 1) s) ∧ codeB ((List.range len).map fun s => ((lenS l len (k + 1) s : Nat) : Int)) = true := by
  have hpos : ∀ x ∈ lvM l len, 0 < x.1 := fun x hx => by
    rw [lvM_eq] at hx
    obtain ⟨s, hs, rfl⟩ := List.mem_map.1 hx
    have := of_decide_eq_true (List.mem_filter.1 hs).2
    show 0 < (l.getD s 0).toNat
    omega
  obtain ⟨f, hf⟩ := levels hpos k (2 * (lvM l len).length - 2) (lvlM_long _ (by omega) k hm)
  have hrl : (ranks l len).length = (lvM l len).length := by unfold ranks sortM; rw [List.length_map, sortL_len]
  generalize hn : (lvM l len).length = n at *
  have hS : ∀ s, lenS l len (k + 1) s = sumC (lvM l len) f s k := fun s => by
    have := hf.count s
    rw [← this]
    unfold lenS chosen
    rw [hn]; rfl
  have hmem : ∀ s, s ∈ ranks l len ↔ s < len ∧ 0 < l.getD s 0 := fun s => by
    rw [(ranks_perm l len).mem_iff, List.mem_filter, List.mem_range]
    unfold posB
    rw [decide_eq_true_eq]
  have hR : ∀ r (hr : r < (ranks l len).length), lenS l len (k + 1) (ranks l len)[r] = cntR f r k := fun r hr => (hS _).trans (sumC_rank l len f r hr k)
  have hf2 : ∀ j, j ≤ k → f j ≤ n := fun j hj => by rw [← hn]; exact hf.few j hj
  have hoff : ∀ s, ¬ (s < len ∧ 0 < l.getD s 0) → lenS l len (k + 1) s = 0 := fun s hs => (hS s).trans (sumC_off l len f s (fun h => hs ((hmem s).1 h)) k)
  refine ⟨fun s h1 h3 => ?_, hoff, fun s q hs hq h1 h3 => ?_, ?_⟩
  · obtain ⟨r, hr, rfl⟩ := List.getElem_of_mem ((hmem s).2 ⟨h1, h3⟩)
    rw [hR r hr]
    exact ⟨levels_all h2 hf.mono hf2 hf.worth (by omega), cntR_le f r k⟩
  · obtain ⟨r, hr, rfl⟩ := List.getElem_of_mem ((hmem s).2 ⟨hs, h1⟩)
    obtain ⟨t, ht, rfl⟩ := List.getElem_of_mem ((hmem q).2 ⟨hq, by omega⟩)
    rw [hR r hr, hR t ht]
    rcases Nat.lt_or_ge t r with hlt | hge
    · exfalso
      have hl : ∀ i (hi : i < (ranks l len).length), ∃ hj : i < (sortM (lvM l len)).length, (sortM (lvM l len))[i].1 = (l.getD (ranks l len)[i] 0).toNat := fun i hi => by
        have hj : i < (sortM (lvM l len)).length := by unfold ranks at hi; rwa [List.length_map] at hi
        refine ⟨hj, ?_⟩
        rw [(sorted_leaf l len _ (List.getElem_mem hj)).2]
        simp [ranks]
      obtain ⟨j1, e1⟩ := hl r hr
      obtain ⟨j2, e2⟩ := hl t ht
      have hasc := sortM_asc (lvM l len)
      unfold AscM at hasc
      have := List.pairwise_iff_getElem.1 hasc t r j2 j1 hlt
      omega
    · exact cntR_anti f hge k
  · unfold codeB
    have hks : kraftS ((List.range len).map fun s => ((lenS l len (k + 1) s : Nat) : Int)) 16 = 32768 := by
      have h1 := kraft_sum ((List.range len).map (lenS l len (k + 1)))
      rw [List.map_map, List.map_map] at h1
      refine Eq.trans h1 ?_
      rw [← sum_filter (p := posB l) (List.range len) (fun s _ hp => by
        have hp : ¬ 0 < l.getD s 0 := of_decide_eq_false hp
        show wtL (lenS l len (k + 1) s) = 0
        rw [hoff s (fun h => hp h.2)]; rfl), ← (((ranks_perm l len).map (wtL ∘ lenS l len (k + 1))).sum_nat)]
      have h3 := sum_sumR (wtL ∘ lenS l len (k + 1)) (ranks l len) _ (Nat.le_refl _)
      rw [List.take_length] at h3
      rw [h3, hrl]
      have h4 := kraft_levels (by omega) hf.mono hf2 hf.worth
      rw [sumR_congr (h := fun r => 2 ^ (15 - (k + 1)) * 2 ^ (k + 1 - cntR f r k)) n fun r hr => ?_, sumR_mul, h4, ← Nat.pow_add, show 15 - (k + 1) + (k + 1) = 15 by omega]
      have hr2 : r < (ranks l len).length := by omega
      have hc1 := levels_all h2 hf.mono hf2 hf.worth hr
      have hc2 := cntR_le f r k
      show wtL (lenS l len (k + 1) ((ranks l len).getD r 0)) = _
      rw [show (ranks l len).getD r 0 = (ranks l len)[r] by simp [List.getD, hr2], hR r hr2]
      unfold wtL
      rw [if_pos (by omega), ← Nat.pow_add, show 15 - (k + 1) + (k + 1 - cntR f r k) = 15 - cntR f r k by omega]
    rw [decide_eq_true hks]
    simp
end Go.Proofs.Ytcacnidlfjglbaa
