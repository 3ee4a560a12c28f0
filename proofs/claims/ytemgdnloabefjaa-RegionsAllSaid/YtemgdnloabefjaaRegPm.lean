/- Plain: the gaps of a span: they are within, rise, meet nothing that is in, and with what is covered they are all. -/
import Derived.Test.YtemgdnloabefjaaRegPl
namespace Go.Proofs.Ytemgdnloabefjaa
open Go.RowKit Go.Conc
set_option linter.unusedVariables false
def lenS (G : List (Nat × Nat)) : Nat := (G.map fun g => g.2 - g.1).sum
theorem lenS_snoc (G : List (Nat × Nat)) (g : Nat × Nat) : lenS (G ++ [g]) = lenS G + (g.2 - g.1) := by simp [lenS]
theorem rising_snoc_split {pre post : List PartR} {p : PartR} (h : Rising (pre ++ p :: post)) : (∀ q ∈ pre, q.hi ≤ p.lo) ∧ (∀ q ∈ post, p.hi ≤ q.lo) ∧ p.lo < p.hi := by
  refine ⟨fun q hq => ?_, fun q hq => ?_, ?_⟩
  · obtain ⟨i, hi, rfl⟩ := List.getElem_of_mem hq
    have := h.lt i pre.length hi (by simp)
    simpa [List.getElem_append_left hi] using this
  · have h2 : Rising (p :: post) := by have := h.drop pre.length; simpa using this
    exact h2.mem q hq
  · exact (h.allm p (by simp)).1
/-- What the gaps so far are: 'at' is where the next may begin. -/
structure GI (M : List PartR) (lo hi : Nat) (pre : List PartR) (G : List (Nat × Nat)) (at1 : Nat) : Prop where
  h1 : ∀ g ∈ G, lo ≤ g.1 ∧ g.1 < g.2 ∧ g.2 ≤ hi ∧ g.2 ≤ at1
  h2 : G.Pairwise fun a b => a.2 ≤ b.1
  h3 : lenS G + covN pre lo hi = min at1 hi - lo
  h4 : lo ≤ at1
  h5 : ∀ q ∈ pre, q.hi ≤ at1
  h6 : ∀ g ∈ G, ∀ q ∈ M, q.hi ≤ g.1 ∨ g.2 ≤ q.lo
  h7 : G.length ≤ pre.length
theorem pair_snoc {G : List (Nat × Nat)} {g : Nat × Nat} (h : G.Pairwise fun a b => a.2 ≤ b.1) (hg : ∀ x ∈ G, x.2 ≤ g.1) : (G ++ [g]).Pairwise fun a b => a.2 ≤ b.1 := by
  rw [List.pairwise_append]
  exact ⟨h, List.pairwise_singleton _ _, fun a ha b hb => by rw [List.mem_singleton.1 hb]; exact hg a ha⟩
theorem gi_step {lo hi : Nat} (hlh : lo < hi) {pre post : List PartR} {p : PartR} {G : List (Nat × Nat)} {at1 : Nat} (hR : Rising (pre ++ p :: post)) (hm : meetB lo hi p = true) (hl : at1 ≤ p.lo ∨ (pre = [] ∧ at1 = lo ∧ p.lo ≤ lo)) (h : GI (pre ++ p :: post) lo hi pre G at1) :
    GI (pre ++ p :: post) lo hi (pre ++ [p]) (gapS (G, at1) p).1 (gapS (G, at1) p).2 := by
  obtain ⟨s1, s2, s3⟩ := rising_snoc_split hR
  have hm2 : lo < p.hi ∧ p.lo < hi := by simp [meetB] at hm; omega
  obtain ⟨h1, h2, h3, h4, h5, h6, h7⟩ := h
  unfold gapS
  by_cases hc : at1 < p.lo
  · rw [if_pos hc]
    refine ⟨fun g hg => ?_, pair_snoc h2 fun x hx => (h1 x hx).2.2.2, ?_, by show lo ≤ p.hi; omega, fun q hq => ?_, fun g hg q hq => ?_, by simp; omega⟩
    · rcases List.mem_append.1 hg with hg | hg
      · have := h1 g hg; refine ⟨this.1, this.2.1, this.2.2.1, ?_⟩; show g.2 ≤ p.hi; omega
      · rw [List.mem_singleton.1 hg]; exact ⟨h4, hc, by show p.lo ≤ hi; omega, by show p.lo ≤ p.hi; omega⟩
    · rw [lenS_snoc, covN_snoc]
      show lenS G + (p.lo - at1) + (covN pre lo hi + covP lo hi p) = min p.hi hi - lo
      unfold covP; omega
    · rcases List.mem_append.1 hq with hq | hq
      · have := h5 q hq; show q.hi ≤ p.hi; omega
      · rw [List.mem_singleton.1 hq]; exact Nat.le_refl _
    · rcases List.mem_append.1 hg with hg | hg
      · exact h6 g hg q hq
      · rw [List.mem_singleton.1 hg]
        show q.hi ≤ at1 ∨ p.lo ≤ q.lo
        rcases List.mem_append.1 hq with hq | hq
        · exact .inl (h5 q hq)
        · rcases List.mem_cons.1 hq with rfl | hq
          · exact .inr (Nat.le_refl _)
          · have := s2 q hq; exact .inr (by omega)
  · rw [if_neg hc]
    refine ⟨fun g hg => ?_, h2, ?_, by show lo ≤ p.hi; omega, fun q hq => ?_, h6, by simp; omega⟩
    · have := h1 g hg
      refine ⟨this.1, this.2.1, this.2.2.1, ?_⟩
      show g.2 ≤ p.hi
      rcases hl with hl | ⟨rfl, rfl, hl⟩ <;> omega
    · rw [covN_snoc]
      show lenS G + (covN pre lo hi + covP lo hi p) = min p.hi hi - lo
      unfold covP
      rcases hl with hl | ⟨rfl, rfl, hl⟩ <;> omega
    · rcases List.mem_append.1 hq with hq | hq
      · have := s1 q hq; show q.hi ≤ p.hi; omega
      · rw [List.mem_singleton.1 hq]; exact Nat.le_refl _
theorem gi_fold {lo hi : Nat} (hlh : lo < hi) : ∀ (post pre : List PartR) (st : List (Nat × Nat) × Nat), Rising (pre ++ post) → (∀ q ∈ pre ++ post, meetB lo hi q = true) → (∀ q ∈ post, st.2 ≤ q.lo ∨ (pre = [] ∧ st.2 = lo)) → GI (pre ++ post) lo hi pre st.1 st.2 → GI (pre ++ post) lo hi (pre ++ post) (post.foldl gapS st).1 (post.foldl gapS st).2
  | [], pre, st, _, _, _, h => by simpa using h
  | p :: post, pre, st, hR, hm, hl, h => by
    rw [List.foldl_cons]
    have e : pre ++ p :: post = (pre ++ [p]) ++ post := by simp
    have s := rising_snoc_split hR
    have hm0 := hm p (by simp)
    have hl0 : st.2 ≤ p.lo ∨ (pre = [] ∧ st.2 = lo ∧ p.lo ≤ lo) := by
      rcases hl p List.mem_cons_self with h | ⟨h1, h2⟩
      · exact .inl h
      · by_cases hx : st.2 ≤ p.lo
        · exact .inl hx
        · exact .inr ⟨h1, h2, by omega⟩
    have g2 := gi_step hlh hR hm0 hl0 (show GI (pre ++ p :: post) lo hi pre st.1 st.2 from h)
    have e2 : (gapS (st.1, st.2) p).2 = p.hi := by unfold gapS; split <;> rfl
    rw [e] at hR hm g2 ⊢
    refine gi_fold hlh post (pre ++ [p]) (gapS st p) hR hm (fun q hq => .inl ?_) g2
    show (gapS (st.1, st.2) p).2 ≤ q.lo
    rw [e2]
    exact s.2.1 q hq
theorem gaps_are {L : List PartR} (hR : Rising L) {lo hi : Nat} (hlh : lo < hi) :
    (∀ g ∈ rgaps L lo hi, lo ≤ g.1 ∧ g.1 < g.2 ∧ g.2 ≤ hi) ∧ (rgaps L lo hi).Pairwise (fun a b => a.2 ≤ b.1) ∧ lenS (rgaps L lo hi) + covN L lo hi = hi - lo ∧ (∀ g ∈ rgaps L lo hi, ∀ q ∈ L, q.hi ≤ g.1 ∨ g.2 ≤ q.lo) ∧ (rgaps L lo hi).length ≤ L.length + 1 := by
  have hM := over_filter hR (lo : Nat) (hi : Nat)
  have hRM : Rising (overL L lo hi) := by
    rw [show overL L (lo : Nat) (hi : Nat) = (L.drop (fstI L lo)).takeWhile (fun p => decide ((p.lo : Int) < (hi : Nat))) from rfl]
    obtain ⟨n, hn⟩ : ∃ n, (L.drop (fstI L lo)).takeWhile (fun p => decide ((p.lo : Int) < (hi : Nat))) = (L.drop (fstI L lo)).take n := ⟨_, List.prefix_iff_eq_take.1 (List.takeWhile_prefix _)⟩
    rw [hn]
    exact rising_take (hR.drop _) n
  have hmm : ∀ q ∈ overL L (lo : Nat) (hi : Nat), meetB lo hi q = true := fun q hq => by rw [hM] at hq; exact (List.mem_filter.1 hq).2
  have hml : (overL L (lo : Nat) (hi : Nat)).length ≤ L.length := by rw [hM]; exact List.length_filter_le _ _
  have hcov := covN_over hR lo hi
  have hnot : ∀ q ∈ L, q ∈ overL L (lo : Nat) (hi : Nat) ∨ q.hi ≤ lo ∨ hi ≤ q.lo := fun q hq => by
    by_cases h : meetB (lo : Nat) (hi : Nat) q = true
    · left; rw [hM]; exact List.mem_filter.2 ⟨hq, h⟩
    · right; simp [meetB] at h; omega
  have hGI := gi_fold hlh (overL L (lo : Nat) (hi : Nat)) [] ([], lo) (by simpa using hRM) (by simpa using hmm) (fun q _ => .inr ⟨rfl, rfl⟩)
    ⟨fun g hg => by simp at hg, List.Pairwise.nil, by simp [lenS, covN]; omega, Nat.le_refl _, fun q hq => by simp at hq, fun g hg => by simp at hg, Nat.le_refl _⟩
  simp only [List.nil_append] at hGI
  have hgo : gapGo L lo hi = (overL L (lo : Nat) (hi : Nat)).foldl gapS ([], lo) := gapGo_over hR lo hi
  rw [← hgo] at hGI
  obtain ⟨h1, h2, h3, h4, h5, h6, h7⟩ := hGI
  rw [hcov] at h3
  have free : ∀ a b : Nat, lo ≤ a → b ≤ hi → (∀ q ∈ overL L (lo : Nat) (hi : Nat), q.hi ≤ a ∨ b ≤ q.lo) → ∀ q ∈ L, q.hi ≤ a ∨ b ≤ q.lo := fun a b ha hb hf q hq => by
    rcases hnot q hq with h | h | h
    · exact hf q h
    · exact .inl (by omega)
    · exact .inr (by omega)
  unfold rgaps
  by_cases hc : (gapGo L lo hi).2 < hi
  · rw [if_pos hc]
    refine ⟨fun g hg => ?_, pair_snoc h2 fun x hx => (h1 x hx).2.2.2, by rw [lenS_snoc]; show lenS _ + (hi - _) + _ = _; omega, fun g hg q hq => ?_, by simp; omega⟩
    · rcases List.mem_append.1 hg with hg | hg
      · have := h1 g hg; exact ⟨this.1, this.2.1, this.2.2.1⟩
      · rw [List.mem_singleton.1 hg]; exact ⟨h4, hc, Nat.le_refl _⟩
    · rcases List.mem_append.1 hg with hg | hg
      · have := h1 g hg; exact free _ _ this.1 this.2.2.1 (h6 g hg) q hq
      · rw [List.mem_singleton.1 hg]
        exact free _ _ h4 (Nat.le_refl _) (fun q hq => .inl (h5 q hq)) q hq
  · rw [if_neg hc]
    refine ⟨fun g hg => ?_, h2, by omega, fun g hg q hq => ?_, by omega⟩
    · have := h1 g hg; exact ⟨this.1, this.2.1, this.2.2.1⟩
    · have := h1 g hg; exact free _ _ this.1 this.2.2.1 (h6 g hg) q hq
theorem covN_putIn (L : List PartR) (p : PartR) (lo hi : Nat) : covN (putIn L p) lo hi = covN L lo hi + covP lo hi p := by
  unfold putIn
  have h : covN L lo hi = covN (L.take (fstI L p.lo)) lo hi + covN (L.drop (fstI L p.lo)) lo hi := by
    conv => lhs; rw [← List.take_append_drop (fstI L p.lo) L]
    unfold covN
    rw [List.map_append, List.sum_append]
  rw [h]
  simp [covN]
  omega
/-- A set into which the first i gaps were put. -/
structure Filled (L : List PartR) (G : List (Nat × Nat)) (lo hi i : Nat) (M : List PartR) : Prop where
  rise : Rising M
  len : M.length ≤ L.length + i
  cov : covN M lo hi = covN L lo hi + lenS (G.take i)
  from' : ∀ q ∈ M, q ∈ L ∨ ∃ g ∈ G.take i, q.lo = g.1 ∧ q.hi = g.2
theorem filled_zero {L : List PartR} (hR : Rising L) (G : List (Nat × Nat)) (lo hi : Nat) : Filled L G lo hi 0 L := ⟨hR, Nat.le_refl _, by simp [lenS], fun q hq => .inl hq⟩
theorem filled_step {L M : List PartR} {lo hi i : Nat} (hR : Rising L) (hlh : lo < hi) (hhi : hi ≤ 4611686018427387904) (hi' : i < (rgaps L lo hi).length) (h : Filled L (rgaps L lo hi) lo hi i M) :
    addE M ((rgaps L lo hi)[i]).1 ((rgaps L lo hi)[i]).2 = 0 ∧ Filled L (rgaps L lo hi) lo hi (i + 1) (addL M ((rgaps L lo hi)[i]).1 ((rgaps L lo hi)[i]).2 1) := by
  obtain ⟨g1, g2, g3, g4, g5⟩ := gaps_are hR hlh
  obtain ⟨r1, r2, r3, r4⟩ := h
  generalize rgaps L lo hi = G at *
  have hmem : G[i] ∈ G := List.getElem_mem hi'
  have b1 := g1 _ hmem
  have hsp : spB ((G[i].1 : Nat) : Int) ((G[i].2 : Nat) : Int) = true := decide_eq_true ⟨by omega, by omega, by omega⟩
  have hfree : ∀ q ∈ M, ¬ (G[i].1 < q.hi ∧ q.lo < G[i].2) := fun q hq hm => by
    rcases r4 q hq with h | ⟨g, hg, e1, e2⟩
    · rcases g4 _ hmem q h with h | h <;> omega
    · obtain ⟨j, hj, rfl⟩ := List.getElem_of_mem hg
      rw [List.length_take] at hj
      rw [List.getElem_take] at e1 e2
      have := List.pairwise_iff_getElem.1 g2 j i (by omega) hi' (by omega)
      omega
  have hc : clashB M ((G[i].1 : Nat) : Int) ((G[i].2 : Nat) : Int) = false := by
    rw [clash_eq r1]
    unfold rclashB
    rw [hsp, Bool.true_and]
    refine List.any_eq_false.2 fun q hq hh => ?_
    unfold hitB at hh
    simp at hh
    exact hfree q hq ⟨by omega, by omega⟩
  have e2 : addL M ((G[i].1 : Nat) : Int) ((G[i].2 : Nat) : Int) 1 = putIn M ⟨G[i].1, G[i].2, 1⟩ := by unfold addL; rw [hsp, hc]; rfl
  refine ⟨by unfold addE; rw [if_pos hsp, hc]; rfl, ?_⟩
  rw [e2]
  have ht : G.take (i + 1) = G.take i ++ [G[i]] := List.take_succ_eq_append_getElem hi'
  refine ⟨putIn_rising r1 b1.2.1 (by show G[i].2 ≤ _; omega) hfree, by rw [putIn_len]; omega, ?_, fun q hq => ?_⟩
  · rw [covN_putIn, r3, ht, lenS_snoc]
    unfold covP
    show _ + (min G[i].2 hi - max G[i].1 lo) = _
    omega
  · rcases mem_putIn hq with rfl | hq
    · exact .inr ⟨G[i], by rw [ht]; exact List.mem_append_right _ (List.mem_singleton.2 rfl), rfl, rfl⟩
    · rcases r4 q hq with h | ⟨g, hg, h⟩
      · exact .inl h
      · exact .inr ⟨g, by rw [ht]; exact List.mem_append_left _ hg, h⟩
theorem filled_end {L M : List PartR} {lo hi : Nat} (hR : Rising L) (hlh : lo < hi) (h : Filled L (rgaps L lo hi) lo hi (rgaps L lo hi).length M) : covN M lo hi = hi - lo ∧ rgaps M lo hi = [] := by
  obtain ⟨_, _, g3, _, _⟩ := gaps_are hR hlh
  obtain ⟨k1, _, k3, _, _⟩ := gaps_are h.rise hlh
  have hc := h.cov
  rw [List.take_length] at hc
  have hcv : covN M lo hi = hi - lo := by omega
  refine ⟨hcv, ?_⟩
  cases hG : rgaps M lo hi with
  | nil => rfl
  | cons g G =>
    rw [hG] at k1 k3
    have := k1 g List.mem_cons_self
    have e : lenS (g :: G) = g.2 - g.1 + lenS G := by simp [lenS]
    omega
theorem len_take_le {L : List PartR} {lo hi i : Nat} (hR : Rising L) (hlh : lo < hi) (hi' : i < (rgaps L lo hi).length) : covN L lo hi + lenS ((rgaps L lo hi).take (i + 1)) ≤ hi - lo := by
  obtain ⟨_, _, g3, _, _⟩ := gaps_are hR hlh
  have h : lenS (rgaps L lo hi) = lenS ((rgaps L lo hi).take (i + 1)) + lenS ((rgaps L lo hi).drop (i + 1)) := by
    conv => lhs; rw [← List.take_append_drop (i + 1) (rgaps L lo hi)]
    unfold lenS
    rw [List.map_append, List.sum_append]
  omega
end Go.Proofs.Ytemgdnloabefjaa
