/- Plain: spans of which none meets another one, put in forth or back, are the same list. -/
import Derived.Test.YtemgdnloabefjaaRegPl
import Derived.Test.YtemgdnloabefjaaSpanKit
namespace Go.Proofs.Ytemgdnloabefjaa
open Go.RowKit Go.Conc
set_option linter.unusedVariables false
theorem mem_putIn_iff {L : List PartR} {p q : PartR} : q ∈ putIn L p ↔ q = p ∨ q ∈ L := by
  constructor
  · exact mem_putIn
  · intro h
    unfold putIn
    rcases h with rfl | h
    · simp
    · rw [← List.take_append_drop (fstI L p.lo) L] at h
      rcases List.mem_append.1 h with h | h
      · exact List.mem_append_left _ h
      · exact List.mem_append_right _ (List.mem_cons_of_mem _ h)
theorem rising_ext : ∀ {A B : List PartR}, Rising A → Rising B → (∀ q, q ∈ A ↔ q ∈ B) → A = B
  | [], [], _, _, _ => rfl
  | [], q :: B, _, _, h => by have := (h q).2 List.mem_cons_self; simp at this
  | p :: A, [], _, _, h => by have := (h p).1 List.mem_cons_self; simp at this
  | p :: A, q :: B, hA, hB, h => by
    have hp := (h p).1 List.mem_cons_self
    have hq := (h q).2 List.mem_cons_self
    have e : p = q := by
      rcases List.mem_cons.1 hp with rfl | hp
      · rfl
      · rcases List.mem_cons.1 hq with rfl | hq
        · rfl
        · have h1 := hB.mem p hp
          have h2 := hA.mem q hq
          have h3 := hA.head.1
          have h4 := hB.head.1
          omega
    subst e
    rw [rising_ext hA.tail hB.tail fun r => ?_]
    constructor
    · intro hr
      rcases List.mem_cons.1 ((h r).1 (List.mem_cons_of_mem _ hr)) with rfl | hr2
      · have := hA.mem r hr
        have := hA.head.1
        omega
      · exact hr2
    · intro hr
      rcases List.mem_cons.1 ((h r).2 (List.mem_cons_of_mem _ hr)) with rfl | hr2
      · have := hB.mem r hr
        have := hB.head.1
        omega
      · exact hr2
def partOf (q : SpR) : PartR := ⟨q.lo.toNat, q.hi.toNat, 0⟩
theorem add_good {L : List PartR} (hR : Rising L) {q : SpR} (hsp : spB q.lo q.hi = true) (hf : ∀ y ∈ L, ¬ (q.lo < (y.hi : Int) ∧ (y.lo : Int) < q.hi)) : addE L q.lo q.hi = 0 ∧ addL L q.lo q.hi 0 = putIn L (partOf q) := by
  have hc : clashB L q.lo q.hi = false := by
    rw [clash_eq hR]
    unfold rclashB
    rw [hsp, Bool.true_and]
    refine List.any_eq_false.2 fun y hy hh => ?_
    unfold hitB at hh
    simp at hh
    exact hf y hy hh
  refine ⟨?_, ?_⟩
  · unfold addE; rw [if_pos hsp, hc]; rfl
  · unfold addL; rw [hsp, hc]; rfl
theorem add_zero {L : List PartR} (hR : Rising L) {lo hi : Int} (h : addE L lo hi = 0) : spB lo hi = true ∧ ∀ y ∈ L, ¬ (lo < (y.hi : Int) ∧ (y.lo : Int) < hi) := by
  unfold addE at h
  split at h
  · rename_i hsp
    split at h
    · cases h
    · rename_i hc
      refine ⟨hsp, fun y hy hm => ?_⟩
      have hc2 := eq_false_of_ne_true hc
      rw [clash_eq hR] at hc2
      unfold rclashB at hc2
      rw [hsp, Bool.true_and, List.any_eq_false] at hc2
      refine hc2 y hy ?_
      unfold hitB
      rw [decide_eq_true hm.1, decide_eq_true hm.2]
      rfl
  · cases h
/-- All spans of l up to the k-th, put in, each of them well. -/
structure Fore (l : List SpR) (k : Nat) (L : List PartR) : Prop where
  rise : Rising L
  len : L.length = k
  mem : ∀ q, q ∈ L ↔ ∃ j, ∃ h : j < l.length, j < k ∧ q = partOf l[j]
  good : ∀ j (h : j < l.length), j < k → spB l[j].lo l[j].hi = true
  free : ∀ i j (hi : i < l.length) (hj : j < l.length), i < j → j < k → ¬ (l[j].lo < l[i].hi ∧ l[i].lo < l[j].hi)
theorem fore_zero (l : List SpR) : Fore l 0 [] := ⟨trivial, rfl, fun q => by simp, fun _ _ h => by omega, fun _ _ _ _ _ h => by omega⟩
theorem fore_step {l : List SpR} {k : Nat} {L : List PartR} (h : Fore l k L) (hk : k < l.length) (he : addE L l[k].lo l[k].hi = 0) : Fore l (k + 1) (addL L l[k].lo l[k].hi 0) := by
  obtain ⟨hsp, hf⟩ := add_zero h.rise he
  have e := (add_good h.rise hsp hf).2
  have hR := addL_rising h.rise l[k].lo l[k].hi 0
  rw [e] at hR ⊢
  refine ⟨hR, by rw [putIn_len, h.len], fun q => ?_, fun j hj hjk => ?_, fun i j hi hj hij hjk hm => ?_⟩
  · rw [mem_putIn_iff, h.mem]
    constructor
    · rintro (rfl | ⟨j, hj, hjk, rfl⟩)
      · exact ⟨k, hk, by omega, rfl⟩
      · exact ⟨j, hj, by omega, rfl⟩
    · rintro ⟨j, hj, hjk, rfl⟩
      by_cases e : j = k
      · subst e; exact .inl rfl
      · exact .inr ⟨j, hj, by omega, rfl⟩
  · by_cases e : j = k
    · subst e; exact hsp
    · exact h.good j hj (by omega)
  · by_cases e : j = k
    · subst e
      have hg := h.good i hi hij
      obtain ⟨a1, a2, a3⟩ := of_decide_eq_true hg
      refine hf (partOf l[i]) ((h.mem _).2 ⟨i, hi, hij, rfl⟩) ⟨?_, ?_⟩
      · show l[j].lo < ((l[i].hi.toNat : Nat) : Int); omega
      · show ((l[i].lo.toNat : Nat) : Int) < l[j].hi; omega
    · exact h.free i j hi hj hij (by omega) hm
/-- The spans of l from the k-th on, put in. -/
structure Aft (l : List SpR) (n k : Nat) (L : List PartR) : Prop where
  rise : Rising L
  len : L.length = n - k
  mem : ∀ q, q ∈ L ↔ ∃ j, ∃ h : j < l.length, k ≤ j ∧ j < n ∧ q = partOf l[j]
theorem aft_zero (l : List SpR) (n : Nat) : Aft l n n [] := ⟨trivial, by simp, fun q => by simp; intro j _ h; omega⟩
theorem aft_step {l : List SpR} {n k : Nat} {L M : List PartR} (hL : Fore l n L) (hn : n ≤ l.length) (h : Aft l n (k + 1) M) (hk : k < n) : addE M (l[k]'(by omega)).lo (l[k]'(by omega)).hi = 0 ∧ Aft l n k (addL M (l[k]'(by omega)).lo (l[k]'(by omega)).hi 0) := by
  have hkl : k < l.length := by omega
  have hsp := hL.good k hkl hk
  have hf : ∀ y ∈ M, ¬ ((l[k]).lo < (y.hi : Int) ∧ (y.lo : Int) < (l[k]).hi) := fun y hy hm => by
    obtain ⟨j, hj, h1, h2, rfl⟩ := (h.mem y).1 hy
    have hg := hL.good j hj h2
    obtain ⟨a1, a2, a3⟩ := of_decide_eq_true hg
    have m1 : l[k].lo < ((l[j].hi.toNat : Nat) : Int) := hm.1
    have m2 : ((l[j].lo.toNat : Nat) : Int) < l[k].hi := hm.2
    exact hL.free k j hkl hj (by omega) h2 ⟨by omega, by omega⟩
  have e := add_good h.rise hsp hf
  have hR := addL_rising h.rise l[k].lo l[k].hi 0
  refine ⟨e.1, ?_⟩
  rw [e.2] at hR ⊢
  refine ⟨hR, by rw [putIn_len, h.len]; omega, fun q => ?_⟩
  rw [mem_putIn_iff, h.mem]
  constructor
  · rintro (rfl | ⟨j, hj, h1, h2, rfl⟩)
    · exact ⟨k, hkl, Nat.le_refl _, hk, rfl⟩
    · exact ⟨j, hj, by omega, h2, rfl⟩
  · rintro ⟨j, hj, h1, h2, rfl⟩
    by_cases e : j = k
    · subst e; exact .inl rfl
    · exact .inr ⟨j, hj, by omega, h2, rfl⟩
theorem fore_aft {l : List SpR} {n : Nat} {L M : List PartR} (hL : Fore l n L) (hM : Aft l n 0 M) : M = L :=
  rising_ext hM.rise hL.rise fun q => by
    rw [hM.mem, hL.mem]
    constructor
    · rintro ⟨j, hj, _, h2, h3⟩; exact ⟨j, hj, h2, h3⟩
    · rintro ⟨j, hj, h2, h3⟩; exact ⟨j, hj, Nat.zero_le _, h2, h3⟩
end Go.Proofs.Ytemgdnloabefjaa
