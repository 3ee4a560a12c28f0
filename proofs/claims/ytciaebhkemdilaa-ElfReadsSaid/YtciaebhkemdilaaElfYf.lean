/- The rows that Write writes hold what fits (plain). -/
import Derived.Test.YtciaebhkemdilaaElfYe
namespace Go.Proofs.Ytciaebhkemdilaa
open Go.RowKit Go.Conc
set_option linter.unusedVariables false
theorem at_mem (L : List (SecR × Nat)) (p : Nat) (y : (SecR × Nat) × Nat) (h : y ∈ atG L p) : y.1 ∈ L ∧ y.2 ≤ endG L p ∧ y.1.1.dat.size ≤ endG L p := by
  induction L generalizing p with
  | nil => simp [atG] at h
  | cons x r ih =>
    rw [atG] at h
    rw [endG]
    by_cases hd : x.1.dat.size = 0
    · rw [if_pos hd] at h ⊢
      rcases List.mem_cons.1 h with rfl | h
      · exact ⟨List.mem_cons_self, Nat.zero_le _, by show x.1.dat.size ≤ _; omega⟩
      · obtain ⟨a, b, c⟩ := ih p h
        exact ⟨List.mem_cons_of_mem _ a, b, c⟩
    · rw [if_neg hd] at h ⊢
      have hle := endG_le r (al8 p + x.1.dat.size)
      rcases List.mem_cons.1 h with rfl | h
      · exact ⟨List.mem_cons_self, by show al8 p ≤ _; omega, by show x.1.dat.size ≤ _; omega⟩
      · obtain ⟨a, b, c⟩ := ih _ h
        exact ⟨List.mem_cons_of_mem _ a, b, c⟩
theorem all_mem (l : List SecR) (p : Nat) (z : SecR × Nat) (h : z ∈ allG l p) : z.1 ∈ l ∧ z.2 ≤ p + (nmsT l).size := by
  induction l generalizing p with
  | nil => simp [allG] at h
  | cons x r ih =>
    rw [allG] at h
    rw [nmsT, ByteArray.size_append, ByteArray.size_append, one_size]
    rcases List.mem_cons.1 h with rfl | h
    · exact ⟨List.mem_cons_self, by show p ≤ _; omega⟩
    · obtain ⟨a, b⟩ := ih _ h
      exact ⟨List.mem_cons_of_mem _ a, by omega⟩
theorem names_size (l : List SecR) (d : ByteArray) : (nmsT (allL l d)).size = 1 + (nmsT l).size + 10 := by
  unfold allL
  rw [show nulS :: (l ++ [shS d]) = [nulS] ++ l ++ [shS d] by simp, nmsT_app, nmsT_app, ByteArray.size_append, ByteArray.size_append]
  rfl
theorem valid_secs {m : ElfR} (h : validB m = true) (x : SecR) (hx : x ∈ m.secs) : (0 ≤ x.typ ∧ x.typ ≤ 4294967295) ∧ (0 ≤ x.lnk ∧ x.lnk ≤ 4294967295) ∧ (0 ≤ x.inf ∧ x.inf ≤ 4294967295) ∧ (0 ≤ x.siz ∧ x.siz ≤ 1099511627776) := by
  unfold validB at h
  simp only [Bool.and_eq_true, List.all_eq_true] at h
  have h1 := h.2.2.2.2 x hx
  unfold secOk betB inB at h1
  simp only [Bool.and_eq_true, List.all_cons, List.all_nil, Bool.and_true, decide_eq_true_eq] at h1
  omega
theorem rows_ok {m : ElfR} (hv : validB m = true) (hok : ∀ x ∈ m.secs, x.Ok) (hz : endG (allP m.secs) (wP m) ≤ 80000000) (hn : (nmsT m.secs).size ≤ 80000000) : ∀ y ∈ wRow m, RowOk y := by
  intro y hy
  obtain ⟨h1, h2, h3⟩ := at_mem _ _ y hy
  obtain ⟨h4, h5⟩ := all_mem _ _ y.1 h1
  rw [names_size] at h5
  unfold RowOk
  have key : (0 ≤ y.1.1.typ ∧ y.1.1.typ ≤ 4294967295) ∧ y.1.1.flg < 18446744073709551616 ∧ y.1.1.adr < 18446744073709551616 ∧ (0 ≤ y.1.1.siz ∧ y.1.1.siz ≤ 1099511627776) ∧ (0 ≤ y.1.1.lnk ∧ y.1.1.lnk ≤ 4294967295) ∧ (0 ≤ y.1.1.inf ∧ y.1.1.inf ≤ 4294967295) ∧ y.1.1.aln < 18446744073709551616 ∧ y.1.1.eac < 18446744073709551616 := by
    unfold allL at h4
    rcases List.mem_cons.1 h4 with e | h4
    · rw [e]; unfold nulS; simp
    · rcases List.mem_append.1 h4 with h4 | h4
      · obtain ⟨a, b, c, d⟩ := valid_secs hv _ h4
        have k := hok _ h4
        unfold SecR.Ok at k
        exact ⟨a, by omega, by omega, d, b, c, by omega, by omega⟩
      · have e := List.mem_singleton.1 h4
        rw [e]; unfold shS; simp
  obtain ⟨k1, k2, k3, k4, k5, k6, k7, k8⟩ := key
  exact ⟨k1, k2, k3, k4, k5, k6, k7, k8, by omega, by omega, by omega⟩
end Go.Proofs.Ytciaebhkemdilaa
