/- Plain: where a set's spans come from; how many bytes of a span are found; gaps and what is covered are all. -/
import Derived.Test.YtemgdnloabefjaaRegX
import Derived.Test.YtemgdnloabefjaaRegP
import Derived.Test.YtemgdnloabefjaaRegH
namespace Go.Proofs.Ytemgdnloabefjaa
open Go.RowKit Go.Conc
set_option linter.unusedVariables false
theorem mem_putIn {L : List PartR} {p q : PartR} (h : q ∈ putIn L p) : q = p ∨ q ∈ L := by
  unfold putIn at h
  rcases List.mem_append.1 h with h | h
  · exact .inr (List.mem_of_mem_take h)
  · rcases List.mem_cons.1 h with h | h
    · exact .inl h
    · exact .inr (List.mem_of_mem_drop h)
theorem mem_addL {L : List PartR} {lo hi x : Int} {q : PartR} (h : q ∈ addL L lo hi x) : ((q.lo : Int) = lo ∧ (q.hi : Int) = hi ∧ q.x = x) ∨ q ∈ L := by
  unfold addL at h
  split at h
  · rename_i hc
    obtain ⟨h1, _⟩ := Bool.and_eq_true_iff.1 hc
    obtain ⟨a1, a2, a3⟩ := of_decide_eq_true h1
    rcases mem_putIn h with rfl | h
    · exact .inl ⟨by show ((lo.toNat : Nat) : Int) = lo; omega, by show ((hi.toNat : Nat) : Int) = hi; omega, rfl⟩
    · exact .inr h
  · exact .inr h
theorem covP_step (p : PartR) (a : Nat) (h : p.lo < p.hi) : covP 0 (a + 1) p = covP 0 a p + if inB (a : Nat) p then 1 else 0 := by
  unfold covP inB
  by_cases h1 : p.lo ≤ a
  · by_cases h2 : a < p.hi
    · have : (decide ((p.lo : Int) ≤ (a : Nat)) && decide (((a : Nat) : Int) < p.hi)) = true := by simp; omega
      rw [if_pos this]; omega
    · have : ¬ (decide ((p.lo : Int) ≤ (a : Nat)) && decide (((a : Nat) : Int) < p.hi)) = true := by simp; omega
      rw [if_neg this]; omega
  · have : ¬ (decide ((p.lo : Int) ≤ (a : Nat)) && decide (((a : Nat) : Int) < p.hi)) = true := by simp; omega
    rw [if_neg this]; omega
theorem inB_iff (a : Int) (p : PartR) : inB a p = true ↔ (p.lo : Int) ≤ a ∧ a < (p.hi : Int) := by unfold inB; simp
theorem covN_none {L : List PartR} (hR : Rising L) (a : Nat) (h : ∀ q ∈ L, inB (a : Nat) q = false) : covN L 0 (a + 1) = covN L 0 a := by
  induction L with
  | nil => rfl
  | cons p L ih =>
    rw [covN_cons, covN_cons, ih hR.tail fun q hq => h q (List.mem_cons_of_mem _ hq), covP_step p a hR.head.1, h p List.mem_cons_self]
    rfl
theorem covN_some {L : List PartR} (hR : Rising L) (a : Nat) {p : PartR} (hp : p ∈ L) (h : inB (a : Nat) p = true) : covN L 0 (a + 1) = covN L 0 a + 1 := by
  induction L with
  | nil => cases hp
  | cons q L ih =>
    rw [covN_cons, covN_cons, covP_step q a hR.head.1]
    by_cases hq : inB (a : Nat) q = true
    · rw [if_pos hq, covN_none hR.tail a fun r hr => by
        have h1 := hR.mem r hr
        rw [inB_iff] at hq
        rw [← Bool.not_eq_true, inB_iff]
        omega]
      omega
    · rw [if_neg hq]
      rcases List.mem_cons.1 hp with rfl | hp
      · exact absurd h hq
      · rw [ih hR.tail hp]; omega
theorem find_cases {L : List PartR} (hR : Rising L) (a : Nat) : (findV L a = 0 ∧ findB L a = false ∧ covN L 0 (a + 1) = covN L 0 a) ∨ ∃ p ∈ L, findV L a = p.x ∧ findB L a = true ∧ (p.lo : Int) ≤ a ∧ (a : Int) < p.hi ∧ covN L 0 (a + 1) = covN L 0 a + 1 := by
  rw [(findV_eq hR a).1, (findV_eq hR a).2]
  unfold rfindV rfindB
  cases hf : L.find? (inB (a : Nat)) with
  | none =>
    rw [List.find?_eq_none] at hf
    exact .inl ⟨rfl, rfl, covN_none hR a fun q hq => by simpa using hf q hq⟩
  | some p =>
    have h1 := List.find?_some hf
    have h2 := List.mem_of_find?_eq_some hf
    have h3 := (inB_iff _ _).1 h1
    exact .inr ⟨p, h2, rfl, rfl, h3.1, h3.2, covN_some hR a h2 h1⟩
theorem covN_zero (L : List PartR) : covN L 0 0 = 0 := by
  induction L with
  | nil => rfl
  | cons p L ih => rw [covN_cons, ih]; unfold covP; omega
end Go.Proofs.Ytemgdnloabefjaa
