/- Plain: a span put in where search says so: the spans rise still. -/
import Derived.Test.YtemgdnloabefjaaRegB
namespace Go.Proofs.Ytemgdnloabefjaa
open Go.RowKit Go.Conc
set_option linter.unusedVariables false
def putIn (L : List PartR) (p : PartR) : List PartR := L.take (fstI L p.lo) ++ p :: L.drop (fstI L p.lo)
theorem fst_cons (q : PartR) (L : List PartR) (a : Int) : fstI (q :: L) a = if a < (q.hi : Int) then 0 else fstI L a + 1 := by
  unfold fstI
  rw [List.findIdx_cons]
  by_cases h : a < (q.hi : Int)
  · rw [if_pos h, decide_eq_true h]; rfl
  · rw [if_neg h, decide_eq_false h]; rfl
theorem Rising.cons {p : PartR} {L : List PartR} (h1 : p.lo < p.hi) (h2 : p.hi ≤ 4611686018427387904) (h3 : ∀ q R, L = q :: R → p.hi ≤ q.lo) (h4 : Rising L) : Rising (p :: L) := by
  cases L with
  | nil => exact ⟨h1, h2⟩
  | cons q R => exact ⟨h1, h3 q R rfl, h4⟩
theorem putIn_cons_lt {q p : PartR} {L : List PartR} (h : (p.lo : Int) < q.hi) : putIn (q :: L) p = p :: q :: L := by
  unfold putIn
  rw [fst_cons, if_pos h]
  rfl
theorem putIn_cons_ge {q p : PartR} {L : List PartR} (h : ¬ (p.lo : Int) < q.hi) : putIn (q :: L) p = q :: putIn L p := by
  unfold putIn
  rw [fst_cons, if_neg h]
  rfl
theorem putIn_rising {L : List PartR} {p : PartR} (hR : Rising L) (h1 : p.lo < p.hi) (h2 : p.hi ≤ 4611686018427387904) (hc : ∀ x ∈ L, ¬ (p.lo < x.hi ∧ x.lo < p.hi)) : Rising (putIn L p) := by
  induction L with
  | nil => exact ⟨h1, h2⟩
  | cons q L ih =>
    by_cases h : (p.lo : Int) < q.hi
    · rw [putIn_cons_lt h]
      have := hc q List.mem_cons_self
      exact Rising.cons h1 h2 (fun r R e => by injection e with e1 e2; subst e1; omega) hR
    · rw [putIn_cons_ge h]
      refine Rising.cons hR.head.1 hR.head.2 (fun r R e => ?_) (ih hR.tail fun x hx => hc x (List.mem_cons_of_mem _ hx))
      cases L with
      | nil =>
        have e2 : p :: [] = r :: R := e
        injection e2 with e1 _
        subst e1; omega
      | cons s L =>
        by_cases h5 : (p.lo : Int) < s.hi
        · rw [putIn_cons_lt h5] at e
          injection e with e1 _
          subst e1; omega
        · rw [putIn_cons_ge h5] at e
          injection e with e1 _
          subst e1
          exact hR.2.1
theorem putIn_len (L : List PartR) (p : PartR) : (putIn L p).length = L.length + 1 := by
  have := fst_le L p.lo
  unfold putIn
  rw [List.length_append, List.length_cons, List.length_take, List.length_drop]
  omega
/-- Where the document puts it: ahead of the first that begins behind it. -/
def radd : List PartR → PartR → List PartR
  | [], p => [p]
  | q :: L, p => if p.lo < q.lo then p :: q :: L else q :: radd L p
theorem radd_eq {L : List PartR} {p : PartR} (hR : Rising L) (h1 : p.lo < p.hi) (hc : ∀ x ∈ L, ¬ (p.lo < x.hi ∧ x.lo < p.hi)) : radd L p = putIn L p := by
  induction L with
  | nil => rfl
  | cons q L ih =>
    have hq := hc q List.mem_cons_self
    have hq2 := hR.head.1
    unfold radd
    by_cases h : (p.lo : Int) < q.hi
    · rw [putIn_cons_lt h, if_pos (by omega)]
    · rw [putIn_cons_ge h, if_neg (by omega), ih hR.tail fun x hx => hc x (List.mem_cons_of_mem _ hx)]
end Go.Proofs.Ytemgdnloabefjaa
