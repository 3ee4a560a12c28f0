/- A byte of a row that a call owns is set; a turned byte. -/
import Derived.Test.YtciaebhkemdilabRowM
import Derived.Test.YtciaebhkemdilabSfR
import Derived.Test.YtciaebhkemdilabSfTI
import Derived.Laws.BitsAllLaws
namespace Go.Proofs.Ytciaebhkemdilab
open Go.RowKit
set_option linter.unusedVariables false
def putB (s : ByteArray) (i : Nat) (c : UInt8) : ByteArray := ⟨s.data.setIfInBounds i c⟩
theorem putB_size (s : ByteArray) (i : Nat) (c : UInt8) : (putB s i c).size = s.size := by
  show (s.data.setIfInBounds i c).size = s.data.size
  simp
theorem putB_bt (s : ByteArray) (i : Nat) (c : UInt8) (hi : i < s.size) : bt (putB s i c) i = c.toNat := by
  rw [bt_eq _ i (by rw [putB_size]; exact hi)]
  show ((s.data.setIfInBounds i c)[i]'(by simpa using hi)).toNat = c.toNat
  simp
theorem putB_other (s : ByteArray) (i j : Nat) (c : UInt8) (hi : i ≠ j) : bt (putB s j c) i = bt s i := by
  by_cases h : i < s.size
  · rw [bt_eq _ i (by rw [putB_size]; exact h), bt_eq s i h]
    show ((s.data.setIfInBounds j c)[i]'(by simpa using h)).toNat = _
    rw [Array.getElem_setIfInBounds_ne (h := by omega)]
    rfl
  · unfold bt
    rw [dif_neg (by rw [putB_size]; exact h), dif_neg h]
theorem strCells_put (s : ByteArray) (i : Nat) (c : UInt8) : Lib.strCells (putB s i c) = (Lib.strCells s).set i (.int .u8 c.toNat) := by
  unfold Lib.strCells putB
  rw [Array.toList_setIfInBounds, List.map_set]
theorem RowM.put {w : World} {B : Nat} {e : TypeId} {s : ByteArray} {g cap : Nat} (h : RowM w B e (.slice (some ⟨g, 0, none⟩) s.size cap) s) {i : Nat} (hi : i < s.size) (c : UInt8) : RowM (w.setCell ⟨g, i, none⟩ (.int .u8 c.toNat)) B e (.slice (some ⟨g, 0, none⟩) s.size cap) (putB s i c) := by
  rcases h with ⟨h, _⟩ | ⟨g', cap', cur, fz, h, h1, h2, h3, h4, h5, h6, h7⟩
  · cases h
  · injection h with e1 e2 e3
    injection e1 with e1
    injection e1 with e1
    subst e1 e3
    refine .inr ⟨g, cap, cur.setIfInBounds i (.int .u8 c.toNat), fz, by rw [putB_size], h1, ?_, by simpa using h3, by rw [putB_size]; exact h4, h5, by simpa using h6, ?_⟩
    · rw [setCell_eq_setRow w g i cur e fz _ h2]
      exact setRow_heap w g cur _ e _ h2
    · rw [putB_size, strCells_put, ← h7, Array.toList_setIfInBounds, List.take_set]
theorem RowM.slot {w : World} {B : Nat} {e : TypeId} {v : Value} {s : ByteArray} (h : RowM w B e v s) (h0 : 0 < s.size) : ∃ g cap, v = .slice (some ⟨g, 0, none⟩) s.size cap ∧ B ≤ g ∧ g < w.heap.size ∧ ∀ i, i < s.size → w.cell? ⟨g, i, none⟩ = some (.int .u8 (bt s i)) ∧ w.frozen? ⟨g, i, none⟩ = false := by
  have hh := h
  rcases h with ⟨_, h⟩ | ⟨g, cap, cur, fz, rfl, h1, h2, h3, h4, h5, h6, h7⟩
  · omega
  · refine ⟨g, cap, rfl, h1, (Array.getElem?_eq_some_iff.1 h2).1, fun i hi => ⟨?_, ?_⟩⟩
    · have k := hh.cells i (.int .u8 (bt s i)) (by
        unfold Lib.strCells
        rw [List.getElem?_map, List.getElem?_eq_getElem (by rw [← size_list]; exact hi)]
        rw [bt_eq s i hi]
        rfl)
      have hadd : (⟨g, 0, none⟩ : Addr).add i = ⟨g, i, none⟩ := by unfold Addr.add; split <;> simp_all
      rw [hadd] at k
      exact k
    · obtain ⟨lo, hi'⟩ := fz
      simp only [World.frozen?, h2, Bool.and_eq_false_iff, decide_eq_false_iff_not]
      simp only at h3
      omega
theorem xor_ne {a b : Nat} (h : b ≠ 0) : a ^^^ b ≠ a := fun e => by
  have k : a ^^^ (a ^^^ b) = a ^^^ a := by rw [e]
  rw [← Nat.xor_assoc, Nat.xor_self, Nat.zero_xor] at k
  exact h k
theorem xor_lt8 {a b : Nat} (ha : a < 256) (hb : b < 256) : a ^^^ b < 256 := Nat.xor_lt_two_pow (n := 8) ha hb
end Go.Proofs.Ytciaebhkemdilab
