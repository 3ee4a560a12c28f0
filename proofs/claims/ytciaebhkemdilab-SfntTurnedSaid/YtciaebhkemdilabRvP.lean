import Derived.Test.YtciaebhkemdilabRvB
import Derived.Test.YtciaebhkemdilabRvD
/- Plain: the document's clash (for spans without values). -/
namespace Go.Proofs.Ytciaebhkemdilab
open Go.RowKit Go.Conc
set_option linter.unusedVariables false
set_option linter.unusedSimpArgs false
/-- A row whose length is not 0 has a block of its own. -/
def hitB (lo hi : Int) (p : PartR) : Bool := decide (lo < (p.hi : Int)) && decide ((p.lo : Int) < hi)
def rclashB (L : List PartR) (lo hi : Int) : Bool := spB lo hi && L.any (hitB lo hi)
theorem any_all {L : List PartR} {f : PartR → Bool} {n : Nat} (h : (L.take n).any f = false) (hn : L.length = n) : L.any f = false := by
  rwa [List.take_of_length_le (by omega)] at h
theorem any_hit {L : List PartR} {f : PartR → Bool} {k : Nat} (hk : k < L.length) (h : f L[k] = true) : L.any f = true := List.any_eq_true.mpr ⟨L[k], List.getElem_mem hk, h⟩
theorem any_next {L : List PartR} {f : PartR → Bool} {k : Nat} (hk : k < L.length) (h0 : (L.take k).any f = false) (h : f L[k] = false) : (L.take (k + 1)).any f = false := by
  rw [List.take_succ_eq_append_getElem hk, List.any_append, h0]
  simp [h]
end Go.Proofs.Ytciaebhkemdilab
/- Plain: clashes alike (for spans without values). -/
namespace Go.Proofs.Ytciaebhkemdilab
open Go.RowKit Go.Conc
set_option linter.unusedVariables false
set_option linter.unusedSimpArgs false
theorem clash_eq {L : List PartR} (hR : Rising L) (lo hi : Int) : clashB L lo hi = rclashB L lo hi := by
  unfold clashB rclashB
  congr 1
  by_cases hf : fstI L lo < L.length
  · rw [dif_pos hf]
    have h1 := fst_at hf
    by_cases h2 : ((L[fstI L lo]).lo : Int) < hi
    · rw [decide_eq_true h2]
      refine (List.any_eq_true.mpr ⟨L[fstI L lo], List.getElem_mem hf, ?_⟩).symm
      unfold hitB
      rw [decide_eq_true h1, decide_eq_true h2]
      rfl
    · rw [decide_eq_false h2]
      refine (List.any_eq_false.mpr fun p hp hh => ?_).symm
      obtain ⟨i, hi2, rfl⟩ := List.getElem_of_mem hp
      unfold hitB at hh
      have hh2 := Bool.and_eq_true_iff.mp hh
      have a1 := of_decide_eq_true hh2.1
      have a2 := of_decide_eq_true hh2.2
      rcases Nat.lt_or_ge i (fstI L lo) with hlt | hge
      · exact fst_before hlt a1
      · rcases Nat.eq_or_lt_of_le hge with he | hlt
        · subst he; exact h2 a2
        · have h3 := hR.lt _ _ hlt hi2
          have h4 := (hR.all _ hf).1
          omega
  · rw [dif_neg hf]
    refine (List.any_eq_false.mpr fun p hp hh => ?_).symm
    obtain ⟨i, hi2, rfl⟩ := List.getElem_of_mem hp
    unfold hitB at hh
    have a1 := of_decide_eq_true (Bool.and_eq_true_iff.mp hh).1
    have := fst_le L lo
    exact fst_before (show i < fstI L lo by omega) a1
end Go.Proofs.Ytciaebhkemdilab
/- Plain: a span put in (for spans without values). -/
namespace Go.Proofs.Ytciaebhkemdilab
open Go.RowKit Go.Conc
set_option linter.unusedVariables false
set_option linter.unusedSimpArgs false
def putIn (L : List PartR) (p : PartR) : List PartR := L.take (fstI L p.lo) ++ p :: L.drop (fstI L p.lo)
theorem fst_cons (q : PartR) (L : List PartR) (a : Int) : fstI (q :: L) a = if a < (q.hi : Int) then 0 else fstI L a + 1 := by
  unfold fstI
  rw [List.findIdx_cons]
  by_cases h : a < (q.hi : Int)
  · rw [if_pos h, decide_eq_true h]; rfl
  · rw [if_neg h, decide_eq_false h]; rfl
theorem Rising.cons {p : PartR} {L : List PartR} (h1 : p.lo < p.hi) (h2 : p.hi ≤ 4611686018427387904) (h3 : ∀ q R, L = q :: R → p.hi ≤ q.lo) (h4 : Rising L) : Rising (p :: L) := by
  cases L with
  | nil => exact ⟨h1, h2⟩
  | cons q R => exact ⟨h1, h3 q R rfl, h4⟩
theorem putIn_cons_lt {q p : PartR} {L : List PartR} (h : (p.lo : Int) < q.hi) : putIn (q :: L) p = p :: q :: L := by
  unfold putIn
  rw [fst_cons, if_pos h]
  rfl
theorem putIn_cons_ge {q p : PartR} {L : List PartR} (h : ¬ (p.lo : Int) < q.hi) : putIn (q :: L) p = q :: putIn L p := by
  unfold putIn
  rw [fst_cons, if_neg h]
  rfl
theorem putIn_rising {L : List PartR} {p : PartR} (hR : Rising L) (h1 : p.lo < p.hi) (h2 : p.hi ≤ 4611686018427387904) (hc : ∀ x ∈ L, ¬ (p.lo < x.hi ∧ x.lo < p.hi)) : Rising (putIn L p) := by
  induction L with
  | nil => exact ⟨h1, h2⟩
  | cons q L ih =>
    by_cases h : (p.lo : Int) < q.hi
    · rw [putIn_cons_lt h]
      have := hc q List.mem_cons_self
      exact Rising.cons h1 h2 (fun r R e => by injection e with e1 e2; subst e1; omega) hR
    · rw [putIn_cons_ge h]
      refine Rising.cons hR.head.1 hR.head.2 (fun r R e => ?_) (ih hR.tail fun x hx => hc x (List.mem_cons_of_mem _ hx))
      cases L with
      | nil =>
        have e2 : p :: [] = r :: R := e
        injection e2 with e1 _
        subst e1; omega
      | cons s L =>
        by_cases h5 : (p.lo : Int) < s.hi
        · rw [putIn_cons_lt h5] at e
          injection e with e1 _
          subst e1; omega
        · rw [putIn_cons_ge h5] at e
          injection e with e1 _
          subst e1
          exact hR.2.1
theorem putIn_len (L : List PartR) (p : PartR) : (putIn L p).length = L.length + 1 := by
  have := fst_le L p.lo
  unfold putIn
  rw [List.length_append, List.length_cons, List.length_take, List.length_drop]
  omega
/-- Where the document puts it: ahead of the first that begins behind it. -/
def radd : List PartR → PartR → List PartR
  | [], p => [p]
  | q :: L, p => if p.lo < q.lo then p :: q :: L else q :: radd L p
theorem radd_eq {L : List PartR} {p : PartR} (hR : Rising L) (h1 : p.lo < p.hi) (hc : ∀ x ∈ L, ¬ (p.lo < x.hi ∧ x.lo < p.hi)) : radd L p = putIn L p := by
  induction L with
  | nil => rfl
  | cons q L ih =>
    have hq := hc q List.mem_cons_self
    have hq2 := hR.head.1
    unfold radd
    by_cases h : (p.lo : Int) < q.hi
    · rw [putIn_cons_lt h, if_pos (by omega)]
    · rw [putIn_cons_ge h, if_neg (by omega), ih hR.tail fun x hx => hc x (List.mem_cons_of_mem _ hx)]
end Go.Proofs.Ytciaebhkemdilab
/- What Add tells and leaves (plain) (for spans without values). -/
namespace Go.Proofs.Ytciaebhkemdilab
open Go.RowKit Go.Conc
set_option linter.unusedVariables false
set_option linter.unusedSimpArgs false
/-- What Add tells, and what is in then. -/
def addE (L : List PartR) (lo hi : Int) : Int := if spB lo hi then (if clashB L lo hi then 5 else 0) else 1
def addL (L : List PartR) (lo hi x : Int) : List PartR := if spB lo hi && !clashB L lo hi then putIn L ⟨lo.toNat, hi.toNat, x⟩ else L
/-- The spans rise still. -/
theorem addL_rising {L : List PartR} (hR : Rising L) (lo hi x : Int) : Rising (addL L lo hi x) := by
  unfold addL
  by_cases h : (spB lo hi && !clashB L lo hi) = true
  · rw [if_pos h]
    obtain ⟨h1, h2⟩ := Bool.and_eq_true_iff.1 h
    obtain ⟨a1, a2, a3⟩ := of_decide_eq_true h1
    rw [clash_eq hR] at h2
    refine putIn_rising hR (by show lo.toNat < hi.toNat; omega) (by show hi.toNat ≤ _; omega) fun y hy hm => ?_
    have hm2 : lo.toNat < y.hi ∧ y.lo < hi.toNat := hm
    have : rclashB L lo hi = true := by
      unfold rclashB
      rw [h1, Bool.true_and]
      refine List.any_eq_true.2 ⟨y, hy, ?_⟩
      unfold hitB
      rw [decide_eq_true (by omega), decide_eq_true (by omega)]
      rfl
    rw [this] at h2
    cases h2
  · rw [if_neg h]; exact hR
theorem addL_len (L : List PartR) (lo hi x : Int) : (addL L lo hi x).length ≤ L.length + 1 := by
  unfold addL
  split
  · rw [putIn_len]; exact Nat.le_refl _
  · omega
end Go.Proofs.Ytciaebhkemdilab
