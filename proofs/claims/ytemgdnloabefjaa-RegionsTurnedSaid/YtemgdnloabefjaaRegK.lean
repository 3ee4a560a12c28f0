/- Plain: the set's Clash and Find are the document's, on spans that rise. -/
import Derived.Test.YtemgdnloabefjaaRegD
import Derived.Test.YtemgdnloabefjaaRegH
namespace Go.Proofs.Ytemgdnloabefjaa
open Go.RowKit Go.Conc
set_option linter.unusedVariables false
theorem clash_eq {L : List PartR} (hR : Rising L) (lo hi : Int) : clashB L lo hi = rclashB L lo hi := by
  unfold clashB rclashB
  congr 1
  by_cases hf : fstI L lo < L.length
  · rw [dif_pos hf]
    have h1 := fst_at hf
    by_cases h2 : ((L[fstI L lo]).lo : Int) < hi
    · rw [decide_eq_true h2]
      refine (List.any_eq_true.mpr ⟨L[fstI L lo], List.getElem_mem hf, ?_⟩).symm
      unfold hitB
      rw [decide_eq_true h1, decide_eq_true h2]
      rfl
    · rw [decide_eq_false h2]
      refine (List.any_eq_false.mpr fun p hp hh => ?_).symm
      obtain ⟨i, hi2, rfl⟩ := List.getElem_of_mem hp
      unfold hitB at hh
      have hh2 := Bool.and_eq_true_iff.mp hh
      have a1 := of_decide_eq_true hh2.1
      have a2 := of_decide_eq_true hh2.2
      rcases Nat.lt_or_ge i (fstI L lo) with hlt | hge
      · exact fst_before hlt a1
      · rcases Nat.eq_or_lt_of_le hge with he | hlt
        · subst he; exact h2 a2
        · have h3 := hR.lt _ _ hlt hi2
          have h4 := (hR.all _ hf).1
          omega
  · rw [dif_neg hf]
    refine (List.any_eq_false.mpr fun p hp hh => ?_).symm
    obtain ⟨i, hi2, rfl⟩ := List.getElem_of_mem hp
    unfold hitB at hh
    have a1 := of_decide_eq_true (Bool.and_eq_true_iff.mp hh).1
    have := fst_le L lo
    exact fst_before (show i < fstI L lo by omega) a1
theorem find_eq {L : List PartR} (hR : Rising L) (a : Int) : L.find? (inB a) = if h : fstI L a < L.length then (if ((L[fstI L a]).lo : Int) ≤ a then some L[fstI L a] else none) else none := by
  have before : ∀ i (hi : i < L.length), i < fstI L a → inB a L[i] = false := fun i hi hlt => by
    have := fst_before hlt
    unfold inB
    rw [decide_eq_false this, Bool.and_false]
  by_cases hf : fstI L a < L.length
  · rw [dif_pos hf]
    have h1 := fst_at hf
    by_cases h2 : ((L[fstI L a]).lo : Int) ≤ a
    · rw [if_pos h2]
      refine find_hit hf ?_ (by unfold inB; rw [decide_eq_true h1, decide_eq_true h2]; rfl)
      refine List.any_eq_false.mpr fun p hp => ?_
      obtain ⟨i, hi2, rfl⟩ := List.getElem_of_mem hp
      rw [List.length_take] at hi2
      rw [List.getElem_take, before i (by omega) (by omega)]
      exact Bool.false_ne_true
    · rw [if_neg h2, List.find?_eq_none]
      intro p hp hh
      obtain ⟨i, hi2, rfl⟩ := List.getElem_of_mem hp
      rcases Nat.lt_or_ge i (fstI L a) with hlt | hge
      · rw [before i hi2 hlt] at hh; cases hh
      · unfold inB at hh
        have a1 := of_decide_eq_true (Bool.and_eq_true_iff.mp hh).1
        rcases Nat.eq_or_lt_of_le hge with he | hlt
        · subst he; exact h2 a1
        · have h3 := hR.lt _ _ hlt hi2
          have h4 := (hR.all _ hf).1
          omega
  · rw [dif_neg hf, List.find?_eq_none]
    intro p hp hh
    obtain ⟨i, hi2, rfl⟩ := List.getElem_of_mem hp
    rw [before i hi2 (by omega)] at hh
    cases hh
theorem findV_eq {L : List PartR} (hR : Rising L) (a : Int) : findV L a = rfindV L a ∧ findB L a = rfindB L a := by
  unfold findV rfindV findB rfindB
  rw [find_eq hR a]
  by_cases hf : fstI L a < L.length
  · rw [dif_pos hf, dif_pos hf, dif_pos hf]
    by_cases h2 : ((L[fstI L a]).lo : Int) ≤ a
    · rw [if_pos h2, if_pos h2, decide_eq_true h2]
      exact ⟨rfl, rfl⟩
    · rw [if_neg h2, if_neg h2, decide_eq_false h2]
      exact ⟨rfl, rfl⟩
  · rw [dif_neg hf, dif_neg hf, dif_neg hf]
    exact ⟨rfl, rfl⟩
end Go.Proofs.Ytemgdnloabefjaa
