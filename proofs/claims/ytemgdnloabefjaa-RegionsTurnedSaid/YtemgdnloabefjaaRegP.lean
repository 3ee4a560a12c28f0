/- Plain: the spans of a set that a span meets; what is covered of it, and what is free. -/
import Derived.Test.YtemgdnloabefjaaRegI
import Derived.Test.YtemgdnloabefjaaRegJ
namespace Go.Proofs.Ytemgdnloabefjaa
open Go.RowKit Go.Conc
set_option linter.unusedVariables false
/-- The spans that meet the one from lo to hi, as the set goes through them. -/
def overL (L : List PartR) (lo hi : Int) : List PartR := (L.drop (fstI L lo)).takeWhile fun p => decide ((p.lo : Int) < hi)
/-- Where hi is no more than a span's first byte, no later one meets it. -/
theorem Rising.drop {L : List PartR} (h : Rising L) (n : Nat) : Rising (L.drop n) := by
  induction n generalizing L with
  | zero => simpa using h
  | succ n ih =>
    cases L with
    | nil => simpa using h
    | cons p L => rw [List.drop_succ_cons]; exact ih h.tail
theorem Rising.mem {p : PartR} {L : List PartR} (h : Rising (p :: L)) : ∀ q ∈ L, p.hi ≤ q.lo := fun q hq => by
  obtain ⟨i, hi, rfl⟩ := List.getElem_of_mem hq
  have := h.lt 0 (i + 1) (by omega) (by simpa using hi)
  simpa using this
theorem Rising.allm {L : List PartR} (h : Rising L) : ∀ q ∈ L, q.lo < q.hi ∧ q.hi ≤ 4611686018427387904 := fun q hq => by
  obtain ⟨i, hi, rfl⟩ := List.getElem_of_mem hq
  exact h.all i hi
theorem rising_cons {p : PartR} {L : List PartR} (h1 : p.lo < p.hi) (h2 : p.hi ≤ 4611686018427387904) (h3 : ∀ q R, L = q :: R → p.hi ≤ q.lo) (h4 : Rising L) : Rising (p :: L) := by
  cases L with
  | nil => exact ⟨h1, h2⟩
  | cons q R => exact ⟨h1, h3 q R rfl, h4⟩
def meetB (lo hi : Int) (p : PartR) : Bool := decide (lo < (p.hi : Int)) && decide ((p.lo : Int) < hi)
theorem takeWhile_filter {L : List PartR} (hR : Rising L) (lo hi : Int) (hL : ∀ q ∈ L, lo < (q.hi : Int)) : L.takeWhile (fun p => decide ((p.lo : Int) < hi)) = L.filter (meetB lo hi) := by
  induction L with
  | nil => rfl
  | cons p L ih =>
    have h1 := hL p List.mem_cons_self
    by_cases h : (p.lo : Int) < hi
    · rw [List.takeWhile_cons_of_pos (by simpa using h), List.filter_cons_of_pos (by simp [meetB, h1, h]), ih hR.tail fun q hq => hL q (List.mem_cons_of_mem _ hq)]
    · rw [List.takeWhile_cons_of_neg (by simpa using h), eq_comm, List.filter_eq_nil_iff]
      intro q hq hm
      simp only [meetB, Bool.and_eq_true, decide_eq_true_eq] at hm
      rcases List.mem_cons.1 hq with rfl | hq
      · exact h hm.2
      · have := hR.mem q hq
        have := hR.head.1
        omega
theorem fst_drop {L : List PartR} (hR : Rising L) (a : Int) : ∀ q ∈ L.drop (fstI L a), a < (q.hi : Int) := fun q hq => by
  obtain ⟨i, hi, rfl⟩ := List.getElem_of_mem hq
  rw [List.length_drop] at hi
  rw [List.getElem_drop]
  have h1 := fst_iff hR a (i := fstI L a + i) (by omega)
  rw [decide_eq_true (show fstI L a ≤ fstI L a + i by omega)] at h1
  exact of_decide_eq_true h1
theorem over_filter {L : List PartR} (hR : Rising L) (lo hi : Int) : overL L lo hi = L.filter (meetB lo hi) := by
  unfold overL
  rw [takeWhile_filter (hR.drop _) lo hi (fst_drop hR lo)]
  conv => rhs; rw [← List.take_append_drop (fstI L lo) L, List.filter_append]
  have : (L.take (fstI L lo)).filter (meetB lo hi) = [] := by
    rw [List.filter_eq_nil_iff]
    intro q hq hm
    obtain ⟨i, hi2, rfl⟩ := List.getElem_of_mem hq
    rw [List.length_take] at hi2
    rw [List.getElem_take] at hm
    simp only [meetB, Bool.and_eq_true, decide_eq_true_eq] at hm
    exact fst_before (show i < fstI L lo by omega) hm.1
  rw [this, List.nil_append]
/-- How many bytes of a span from lo to hi a part has. -/
def covP (lo hi : Nat) (p : PartR) : Nat := min p.hi hi - max p.lo lo
def covN (L : List PartR) (lo hi : Nat) : Nat := (L.map (covP lo hi)).sum
theorem covN_snoc (L : List PartR) (p : PartR) (lo hi : Nat) : covN (L ++ [p]) lo hi = covN L lo hi + covP lo hi p := by simp [covN]
theorem covN_cons (L : List PartR) (p : PartR) (lo hi : Nat) : covN (p :: L) lo hi = covP lo hi p + covN L lo hi := by simp [covN]
theorem covN_le {L : List PartR} (hR : Rising L) (lo hi : Nat) (hlo : lo ≤ hi) (b : Nat) (hb : ∀ q ∈ L, b ≤ q.lo) : covN L lo hi ≤ hi - max lo (min b hi) := by
  induction L generalizing b with
  | nil => simp [covN]
  | cons p L ih =>
    have h1 := ih hR.tail p.hi (hR.mem)
    have h2 := hb p List.mem_cons_self
    have h3 := hR.head
    rw [covN_cons]
    unfold covP
    omega
theorem covN_filter (L : List PartR) (lo hi : Nat) : covN (L.filter (meetB lo hi)) lo hi = covN L lo hi := by
  induction L with
  | nil => rfl
  | cons p L ih =>
    by_cases h : meetB lo hi p = true
    · rw [List.filter_cons_of_pos h, covN_cons, covN_cons, ih]
    · rw [List.filter_cons_of_neg h, covN_cons, ih]
      have : covP lo hi p = 0 := by
        unfold covP
        by_cases h1 : (lo : Int) < p.hi
        · by_cases h2 : (p.lo : Int) < hi
          · exact absurd (by simp [meetB]; omega) h
          · omega
        · omega
      omega
theorem covN_over {L : List PartR} (hR : Rising L) (lo hi : Nat) : covN (overL L lo hi) lo hi = covN L lo hi := by rw [over_filter hR, covN_filter]
theorem wrap64_id {x : Int} (h0 : -9223372036854775808 ≤ x) (h1 : x ≤ 9223372036854775807) : wrap64 x = x := by
  unfold wrap64; omega
theorem rising_take {L : List PartR} (hR : Rising L) (n : Nat) : Rising (L.take n) := by
  induction n generalizing L with
  | zero => simp [Rising]
  | succ n ih =>
    cases L with
    | nil => simp [Rising]
    | cons p L =>
      rw [List.take_succ_cons]
      refine rising_cons hR.head.1 hR.head.2 (fun q R e => ?_) (ih hR.tail)
      have : q ∈ L := by
        have : q ∈ L.take n := by rw [e]; exact List.mem_cons_self
        exact List.mem_of_mem_take this
      exact hR.mem q this
/-- The document's covered is the plain number. -/
theorem covW_eq {L : List PartR} (hR : Rising L) (lo hi : Nat) (h : lo ≤ hi) (h2 : hi ≤ 4611686018427387904) : covW L lo hi = (covN L lo hi : Nat) := by
  have key : ∀ n, n ≤ L.length → covW (L.take n) lo hi = (covN (L.take n) lo hi : Nat) := by
    intro n
    induction n with
    | zero => intro _; rfl
    | succ n ih =>
      intro hn
      have hn' : n < L.length := by omega
      have hl := covN_le (rising_take hR n) lo hi h 0 (fun _ _ => Nat.zero_le _)
      have hl2 := covN_le (rising_take hR (n + 1)) lo hi h 0 (fun _ _ => Nat.zero_le _)
      have ha := hR.all n hn'
      rw [cov_next hn', ih (by omega)]
      rw [List.take_succ_eq_append_getElem hn', covN_snoc] at hl2 ⊢
      generalize covN (L.take n) lo hi = m at *
      generalize L[n] = p at *
      unfold covP at hl2 ⊢
      unfold covStep
      have e1 : (if (p.hi : Int) < hi then (p.hi : Int) else hi) = (min p.hi hi : Nat) := by split <;> omega
      have e2 : (if (lo : Int) < p.lo then (p.lo : Int) else lo) = (max p.lo lo : Nat) := by split <;> omega
      rw [e1, e2]
      have hx : min p.hi hi ≤ 4611686018427387904 := by omega
      have hy : max p.lo lo ≤ 4611686018427387904 := by omega
      have hm9 : m + (min p.hi hi - max p.lo lo) ≤ 4611686018427387904 := by omega
      generalize min p.hi hi = x at *
      generalize max p.lo lo = y at *
      clear e1 e2 hl hl2 ha
      by_cases hxy : (x : Int) ≤ y
      · rw [if_pos hxy]; omega
      · rw [if_neg hxy]
        have e3 : wrap64 ((m : Int) + x) = (m : Int) + x := wrap64_id (by omega) (by omega)
        have e4 : wrap64 ((m : Int) + x - y) = (m : Int) + x - y := wrap64_id (by omega) (by omega)
        rw [e3, e4]; omega
  have := key L.length (Nat.le_refl _)
  rwa [List.take_length] at this
/-- The gaps, without the test of what meets. -/
def gapS (st : List (Nat × Nat) × Nat) (p : PartR) : List (Nat × Nat) × Nat := if st.2 < p.lo then (st.1 ++ [(st.2, p.lo)], p.hi) else (st.1, p.hi)
def gapC (L : List PartR) (lo : Nat) : List (Nat × Nat) × Nat := L.foldl gapS ([], lo)
theorem gapC_snoc (L : List PartR) (p : PartR) (lo : Nat) : gapC (L ++ [p]) lo = gapS (gapC L lo) p := by unfold gapC; rw [List.foldl_append]; rfl
theorem gapGo_filter (L : List PartR) (lo hi : Nat) : gapGo L lo hi = gapC (L.filter (meetB lo hi)) lo := by
  unfold gapGo gapC
  have key : ∀ (L : List PartR) (st : List (Nat × Nat) × Nat), L.foldl (gapStep lo hi) st = (L.filter (meetB lo hi)).foldl gapS st := by
    intro L
    induction L with
    | nil => intro st; rfl
    | cons p L ih =>
      intro st
      by_cases h1 : p.hi ≤ lo
      · have hm : ¬ meetB lo hi p = true := by simp [meetB]; omega
        rw [List.filter_cons_of_neg hm, List.foldl_cons, ih]
        unfold gapStep; rw [if_pos h1]
      · by_cases h2 : hi ≤ p.lo
        · have hm : ¬ meetB lo hi p = true := by simp [meetB]; omega
          rw [List.filter_cons_of_neg hm, List.foldl_cons, ih]
          unfold gapStep; rw [if_neg h1, if_pos h2]
        · have hm : meetB lo hi p = true := by simp [meetB]; omega
          rw [List.filter_cons_of_pos hm, List.foldl_cons, List.foldl_cons, ih]
          unfold gapStep gapS; rw [if_neg h1, if_neg h2]
  exact key L _
theorem gapGo_over {L : List PartR} (hR : Rising L) (lo hi : Nat) : gapGo L lo hi = gapC (overL L lo hi) lo := by rw [gapGo_filter, over_filter hR]
end Go.Proofs.Ytemgdnloabefjaa
