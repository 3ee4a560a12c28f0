/- Plain: what Full tells where no step fails. -/
import Derived.Test.YteclomkhienhiaaSrcH
namespace Go.Proofs.Yteclomkhienhiaa
open Go.RowKit Go.Conc
set_option linter.unusedVariables false

/-- No step fails; each brings some bytes at most. -/
def Shorts (l : List (Int × Int)) : Prop := ∀ x ∈ l, x.1 = 1 ∧ 0 ≤ x.2
theorem shorts_rd {l : List (Int × Int)} (h : Shorts l) (s : ByteArray) (a q : Nat) (hq : q ≤ 1048576) :
    ∃ x0 : Int, ∃ y : Nat, (x0 = 1 ∧ l ≠ [] ∨ x0 = 0) ∧ rdAll s l a q = (rdV s a q x0 y, rdE s.size a q x0 y, l.tail) := by
  cases l with
  | nil =>
    refine ⟨0, 0, .inr rfl, ?_⟩
    unfold rdAll
    rw [if_neg (by omega)]
    rfl
  | cons x t =>
    obtain ⟨h1, h2⟩ := h x (List.mem_cons_self ..)
    refine ⟨1, x.2.toNat, .inl ⟨rfl, by simp⟩, ?_⟩
    unfold rdAll
    rw [if_neg (by omega)]
    simp only [List.head?_cons, Option.getD_some, h1, Int.toNat_natCast]
    rfl
theorem Shorts.tail {l : List (Int × Int)} (h : Shorts l) : Shorts l.tail := fun x hx => h x (List.mem_of_mem_tail hx)
theorem ext_size {s : ByteArray} {a m : Nat} (h : a + m ≤ s.size) : (s.extract a (a + m)).size = m := by
  simp only [ByteArray.size_extract]; omega
theorem ext_join {s : ByteArray} {p j m : Nat} : s.extract p (p + j) ++ s.extract (p + j) (p + j + m) = s.extract p (p + (j + m)) := by
  rw [ByteArray.extract_append_extract]
  congr 1 <;> omega
theorem full_all (s : ByteArray) (p n : Nat) (hpn : p + n ≤ s.size) (hn : n ≤ 1048576) : ∀ (l : List (Int × Int)), Shorts l → ∀ (acc : ByteArray) (sp : List (Nat × Nat)), acc = s.extract p (p + acc.size) → acc.size ≤ n →
    (fullGo s p n (l.length + 1) l acc sp).1 = s.extract p (p + n) ∧ (fullGo s p n (l.length + 1) l acc sp).2.1 = 0 := by
  have step : ∀ (l : List (Int × Int)) (k : Nat), Shorts l → ∀ (acc : ByteArray) (sp : List (Nat × Nat)), acc = s.extract p (p + acc.size) → acc.size ≤ n →
      ((fullGo s p n (k + 1) l acc sp).1 = s.extract p (p + n) ∧ (fullGo s p n (k + 1) l acc sp).2.1 = 0) ∨
      (l ≠ [] ∧ ∃ V sp', fullGo s p n (k + 1) l acc sp = fullGo s p n k l.tail (acc ++ V) sp' ∧ acc ++ V = s.extract p (p + (acc ++ V).size) ∧ (acc ++ V).size ≤ n) := by
    intro l k hl acc sp hacc hle
    obtain ⟨x0, y, hx, hr⟩ := shorts_rd hl s (p + acc.size) (n - acc.size) (by omega)
    have hk : rdK s.size (p + acc.size) (n - acc.size) = n - acc.size := by unfold rdK; omega
    have hE : rdE s.size (p + acc.size) (n - acc.size) x0 y = 0 := by unfold rdE; rw [hk]; split; rfl; rw [if_neg (by omega)]
    obtain ⟨m, hm, hV, hmm⟩ : ∃ m, m ≤ n - acc.size ∧ rdV s (p + acc.size) (n - acc.size) x0 y = s.extract (p + acc.size) (p + acc.size + m) ∧ (m = n - acc.size ∨ x0 = 1) := by
      unfold rdV
      rw [hk]
      split
      · rename_i h
        exact ⟨y, by omega, rfl, .inr h.1⟩
      · exact ⟨_, Nat.le_refl _, rfl, .inl rfl⟩
    rw [hE, hV] at hr
    have hz := ext_size (s := s) (a := p + acc.size) (m := m) (by omega)
    rw [fullGo_step hr, if_neg (by decide), hz]
    have hj : acc ++ s.extract (p + acc.size) (p + acc.size + m) = s.extract p (p + (acc.size + m)) := by
      have := ext_join (s := s) (p := p) (j := acc.size) (m := m)
      rw [← hacc] at this
      exact this
    by_cases hf : acc.size + m = n
    · left
      rw [if_pos hf]
      exact ⟨by rw [hj, hf], rfl⟩
    · right
      rw [if_neg hf]
      refine ⟨?_, _, _, rfl, ?_, ?_⟩
      · rcases hmm with h | h
        · exact absurd (by omega) hf
        · rcases hx with hx | hx
          · exact hx.2
          · omega
      · rw [hj, ext_size (by omega)]
      · rw [ByteArray.size_append, hz]; omega
  intro l
  induction l with
  | nil =>
    intro hl acc sp hacc hle
    rcases step [] 0 hl acc sp hacc hle with h | ⟨h, _⟩
    · exact h
    · exact absurd rfl h
  | cons x t ih =>
    intro hl acc sp hacc hle
    rcases step (x :: t) (t.length + 1) hl acc sp hacc hle with h | ⟨_, V, sp', he, h1, h2⟩
    · exact h
    · have e : (x :: t).length + 1 = t.length + 1 + 1 := rfl
      rw [e, he]
      exact ih hl.tail (acc ++ V) sp' h1 h2
theorem full_cut (s : ByteArray) (p n : Nat) (hpn : s.size < p + n ∨ s.size < p) (hn : n ≤ 1048576) : ∀ (l : List (Int × Int)), Shorts l → ∀ (acc : ByteArray) (sp : List (Nat × Nat)), acc.size ≤ n → (acc.size = 0 ∨ p + acc.size ≤ s.size) → (n = 0 → acc = ⟨#[]⟩) →
    (fullGo s p n (l.length + 1) l acc sp).1 = ⟨#[]⟩ ∧ ((fullGo s p n (l.length + 1) l acc sp).2.1 = 2 ∨ n = 0 ∧ (fullGo s p n (l.length + 1) l acc sp).2.1 = 0) := by
  have step : ∀ (l : List (Int × Int)) (k : Nat), Shorts l → ∀ (acc : ByteArray) (sp : List (Nat × Nat)), acc.size ≤ n → (acc.size = 0 ∨ p + acc.size ≤ s.size) → (n = 0 → acc = ⟨#[]⟩) →
      ((fullGo s p n (k + 1) l acc sp).1 = ⟨#[]⟩ ∧ ((fullGo s p n (k + 1) l acc sp).2.1 = 2 ∨ n = 0 ∧ (fullGo s p n (k + 1) l acc sp).2.1 = 0)) ∨
      (l ≠ [] ∧ ∃ V sp', fullGo s p n (k + 1) l acc sp = fullGo s p n k l.tail (acc ++ V) sp' ∧ (acc ++ V).size ≤ n ∧ ((acc ++ V).size = 0 ∨ p + (acc ++ V).size ≤ s.size) ∧ (n = 0 → acc ++ V = ⟨#[]⟩)) := by
    intro l k hl acc sp hle hpa hn0
    obtain ⟨x0, y, hx, hr⟩ := shorts_rd hl s (p + acc.size) (n - acc.size) (by omega)
    rw [fullGo_step hr]
    by_cases hq : n - acc.size = 0
    · have hn1 : n = 0 := by omega
      have ha := hn0 hn1
      subst ha
      have hk : rdK s.size (p + (⟨#[]⟩ : ByteArray).size) (n - (⟨#[]⟩ : ByteArray).size) = 0 := by unfold rdK; omega
      have hE : rdE s.size (p + (⟨#[]⟩ : ByteArray).size) (n - (⟨#[]⟩ : ByteArray).size) x0 y = 0 := by unfold rdE; rw [hk, if_neg (by omega), if_neg (by omega)]
      have hz : (⟨#[]⟩ : ByteArray).size = 0 := rfl
      have hV : rdV s (p + (⟨#[]⟩ : ByteArray).size) (n - (⟨#[]⟩ : ByteArray).size) x0 y = ⟨#[]⟩ := by
        unfold rdV
        rw [hk, if_neg (by omega)]
        exact far_empty s _ 0 (by omega)
      rw [hE, hV, if_neg (by decide), if_pos (by omega)]
      exact .inl ⟨rfl, .inr ⟨hn1, rfl⟩⟩
    · have hk : rdK s.size (p + acc.size) (n - acc.size) < n - acc.size := by unfold rdK; omega
      have hk2 : rdK s.size (p + acc.size) (n - acc.size) ≤ s.size - (p + acc.size) := by unfold rdK; omega
      by_cases hsh : x0 = 1 ∧ y < rdK s.size (p + acc.size) (n - acc.size)
      · have hE : rdE s.size (p + acc.size) (n - acc.size) x0 y = 0 := if_pos hsh
        have hV : rdV s (p + acc.size) (n - acc.size) x0 y = s.extract (p + acc.size) (p + acc.size + y) := if_pos hsh
        have hz := ext_size (s := s) (a := p + acc.size) (m := y) (by omega)
        rw [hE, hV, if_neg (by decide), hz, if_neg (by omega)]
        refine .inr ⟨?_, _, _, rfl, ?_, ?_, fun h => by omega⟩
        · rcases hx with hx | hx
          · exact hx.2
          · omega
        · rw [ByteArray.size_append, hz]; omega
        · rw [ByteArray.size_append, hz]; right; omega
      · have hE : rdE s.size (p + acc.size) (n - acc.size) x0 y = 2 := by unfold rdE; rw [if_neg hsh, if_pos hk]
        rw [hE, if_pos (by decide)]
        exact .inl ⟨rfl, .inl rfl⟩
  intro l
  induction l with
  | nil =>
    intro hl acc sp h1 h2 h3
    rcases step [] 0 hl acc sp h1 h2 h3 with h | ⟨h, _⟩
    · exact h
    · exact absurd rfl h
  | cons x t ih =>
    intro hl acc sp h1 h2 h3
    rcases step (x :: t) (t.length + 1) hl acc sp h1 h2 h3 with h | ⟨_, V, sp', he, g1, g2, g3⟩
    · exact h
    · have e : (x :: t).length + 1 = t.length + 1 + 1 := rfl
      rw [e, he]
      exact ih hl.tail (acc ++ V) sp' g1 g2 g3
set_option maxRecDepth 100000 in
set_option maxHeartbeats 1000000 in
theorem full_bad (g : Nat) (a n : Int) (a1 : -9223372036854775808 ≤ a) (a2 : a ≤ 9223372036854775807) (n1 : -9223372036854775808 ≤ n) (n2 : n ≤ 9223372036854775807) (h : a < 0 ∨ n < 0 ∨ 1048576 < n) (w : World) : Calls Try.prog 12 #[.pointer (some ⟨g, 0, none⟩), .int .i64 a, .int .i64 n] w fun e w' => e = .returned (.tuple #[.string ⟨#[]⟩, .int .i64 1]) ∧ Bw w w' := by
  have HH := hid h
  clear h
  go_enter Try.func12, Try.ntmps12
  go_wp2_with fail
  refine wp_loop_rounds 1 ?_
  rw [rounds_succ]
  go_wp2_with fail
  refine (bld_len w.heap.size w.heap.size false ⟨#[]⟩ _ ⟨Nat.le_refl _, .slice none 0 0, Has.new w _ _, World.ownsRow_nil _ _ _ _⟩).mono ?_
  rintro e wa ⟨rfl, rfl⟩
  go_wp2_with fail
  refine (bld_len w.heap.size w.heap.size false ⟨#[]⟩ _ ⟨Nat.le_refl _, .slice none 0 0, Has.new w _ _, World.ownsRow_nil _ _ _ _⟩).mono ?_
  rintro e wa ⟨rfl, rfl⟩
  go_wp2_with fail
  refine (readAt_bad g a n HH.out _).mono ?_
  rintro e wa ⟨rfl, rfl⟩
  go_wp2
  go_returns
  exact ⟨rfl, by unfold Bw; go_grown⟩
end Go.Proofs.Yteclomkhienhiaa
