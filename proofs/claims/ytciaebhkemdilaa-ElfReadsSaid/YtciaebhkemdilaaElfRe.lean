/- The document's Read: what its loop and its branches leave (plain, but for the memory's words). -/
import Derived.Test.YtciaebhkemdilaaElfRc
import Derived.Test.YtciaebhkemdilaaElfYb
import Derived.Test.YtciaebhkemdilaaElfTg
namespace Go.Proofs.Ytciaebhkemdilaa
open Go.RowKit
set_option linter.unusedVariables false
/-- The sections, the first k of them named. -/
def nmL (s : ByteArray) (p m : Nat) (D : ByteArray) (k : Nat) : List SecR := (List.range m).map fun i => secC s (p + 64 * (i + 1)) (if i < k then namT D (n4 s (p + 64 * (i + 1))) else ⟨#[]⟩) (secD s (p + 64 * (i + 1)))
section
variable {s : ByteArray} {p m k : Nat} {D : ByteArray}
theorem nmL_len : (nmL s p m D k).length = m := by simp [nmL]
theorem nmL_0 : nmL s p m D 0 = rawL s p m := by unfold nmL rawL; simp
theorem nmL_get {i : Nat} (h : i < m) : (nmL s p m D k)[i]'(by rw [nmL_len]; exact h) = secC s (p + 64 * (i + 1)) (if i < k then namT D (n4 s (p + 64 * (i + 1))) else ⟨#[]⟩) (secD s (p + 64 * (i + 1))) := by simp [nmL]
theorem nmL_set (h : k < m) : (secCells (nmL s p m D k)).set (k * 10) (.string (namT D (n4 s (p + 64 * (k + 1))))) = secCells (nmL s p m D (k + 1)) := by
  apply List.ext_getElem?
  intro j
  rw [List.getElem?_set]
  by_cases hj : j < m * 10
  · obtain ⟨i, r, hr, rfl⟩ : ∃ i r, r < 10 ∧ j = i * 10 + r := ⟨j / 10, j % 10, by omega, by omega⟩
    have hi : i < m := by omega
    rw [secCells_get _ i (by rw [nmL_len]; exact hi) r hr, secCells_get _ i (by rw [nmL_len]; exact hi) r hr, nmL_get hi, nmL_get hi]
    by_cases e : k * 10 = i * 10 + r
    · obtain rfl : k = i := by omega
      obtain rfl : r = 0 := by omega
      rw [if_pos e, if_pos (by rw [secCells_len, nmL_len]; omega), if_pos (Nat.lt_succ_self k)]
      rfl
    · rw [if_neg e]
      by_cases ei : i = k
      · subst ei
        match r, hr, e with
        | 0, _, e => exact absurd (by omega) e
        | r + 1, _, _ => rfl
      · by_cases h1 : i < k
        · rw [if_pos h1, if_pos (by omega)]
        · rw [if_neg h1, if_neg (by omega)]
  · rw [if_neg (by omega), List.getElem?_eq_none (by rw [secCells_len, nmL_len]; omega), List.getElem?_eq_none (by rw [secCells_len, nmL_len]; omega)]
end
theorem own_range {w : World} {B g n cp z : Nat} {t : TypeId} {xs : List Value} (h : w.ownsRow B t z (.slice (some ⟨g, 0, none⟩) n cp) n xs) (o : Nat) (l : List Value) (hl : ∀ (j : Nat) (v : Value), l[j]? = some v → xs[o + j]? = some v) : w.rangeAt g o l := fun j v hv => by
  have := h.cells (g := g) rfl (o + j) v (hl j v hv)
  rwa [addr_add] at this
/-- What the segments leave: the error, and the model's box. -/
def SegW (s : ByteArray) (w0 : World) (rb ob : Nat) (zs : Array Value) (E : Int) (cs : Option Addr → Nat → Array Value) (v : Value) (W : World) : Prop :=
  v = .int .i64 E ∧ Bw w0 W ∧ Has W rb 27 zs ∧ (E = 0 → ∃ a c, Has W ob 27 (cs a c) ∧ W.ownsRow 0 61 8 (.slice a (segL s).length c) (segL s).length (segCells (segL s)))
theorem segs_ok {s : ByteArray} (h : segsE s = 0) : ∀ o ∈ segL s, o.Ok := fun o ho => by
  unfold segL at ho
  obtain ⟨i, hi, rfl⟩ := List.mem_map.1 ho
  have := first_0 h i (Nat.zero_le _) (by have := List.mem_range.1 hi; omega)
  obtain ⟨h1, h2, -⟩ := segE_0 this
  exact seg_ok _ _ h1 h2
theorem raw_ok {s : ByteArray} (hs : s.size ≤ 100000000) {p m : Nat} {nm : Nat → ByteArray} (hn : ∀ i, i < m → (nm i).size ≤ s.size) (h : firstE (fun i => secE s (p + 64 * i)) m 1 = 0) : ∀ o ∈ (List.range m).map (fun i => secC s (p + 64 * (i + 1)) (nm i) (secD s (p + 64 * (i + 1)))), o.Ok := fun o ho => by
  obtain ⟨i, hi, rfl⟩ := List.mem_map.1 ho
  have hi' := List.mem_range.1 hi
  have h0 := first_0 h (i + 1) (by omega) (by omega)
  obtain ⟨-, h2⟩ := secE_0 h0
  exact sec_ok s hs _ _ (hn i hi') h2
theorem SecAt.pre {w : World} {a : Option Addr} {l m : List SecR} (h : SecAt w a l) (hm : ∀ i (hi : i < m.length), ∃ hl : i < l.length, l[i] = m[i]) : SecAt w a m := fun i hi => by
  obtain ⟨hl, e⟩ := hm i hi
  rw [← e]
  exact h i hl
theorem own_keys {w : World} {B g n cp : Nat} {s : ByteArray} {p : Nat} (h : w.ownsRow B 23 1 (.slice (some ⟨g, 0, none⟩) n cp) n (namV s p n)) {k : Nat} (hk : k < n) : w.cell? ⟨g, k, none⟩ = some (.int .u64 (n4 s (p + 64 * (k + 1)) : Nat)) := by
  have := h.cells (g := g) rfl k (.int .u64 (n4 s (p + 64 * (k + 1)) : Nat)) (by simp [namV, hk])
  rwa [addr_add] at this
theorem own_low {w : World} {B C z n : Nat} {t : TypeId} {v : Value} {xs : List Value} (hB : C ≤ B) (h : w.ownsRow B t z v n xs) : w.ownsRow C t z v n xs := by
  refine ⟨h.1, ?_⟩
  rcases h.2 with h0 | ⟨g, cap, cur, h1, h2, h3⟩
  · exact .inl h0
  · exact .inr ⟨g, cap, cur, h1, Nat.le_trans hB h2, h3⟩
theorem two_far {w : World} {ob rb b : Nat} (v : Value) (l : List Value) (h1 : b ≠ ob) (h2 : b ≠ rb) : ((w.setCell ⟨ob, 5, none⟩ v).setCells rb 0 l).heap[b]? = w.heap[b]? := by
  rw [setCells_put, putL_heap h2]
  exact Below.heap_setCell w ⟨ob, 5, none⟩ v b h1
end Go.Proofs.Ytciaebhkemdilaa
