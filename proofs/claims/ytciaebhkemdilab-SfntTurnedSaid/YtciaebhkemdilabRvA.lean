/- A set in memory, the closures of its search (for spans without values). -/
import Derived.Test.YtciaebhkemdilabRvZ
namespace Go.Proofs.Ytciaebhkemdilab
open Go.RowKit Go.Conc
set_option linter.unusedVariables false
set_option linter.unusedSimpArgs false
/-- A span that is in, with its number. -/
structure PartR where
  lo : Nat
  hi : Nat
  x : Int
def partCell (p : PartR) : List Value := [.int .i64 p.lo, .int .i64 p.hi]
def partCells (L : List PartR) : List Value := L.flatMap partCell
theorem partCells_len (L : List PartR) : (partCells L).length = L.length * 2 := by
  induction L with
  | nil => rfl
  | cons p L ih =>
    have e : partCells (p :: L) = partCell p ++ partCells L := by simp [partCells]
    rw [e, List.length_append, ih, List.length_cons]
    have : (partCell p).length = 2 := rfl
    omega
theorem partCells_get (L : List PartR) (i : Nat) (h : i < L.length) (j : Nat) (hj : j < 2) : (partCells L)[i * 2 + j]? = (partCell L[i])[j]? := by
  induction L generalizing i with
  | nil => simp at h
  | cons o l ih =>
    have e : partCells (o :: l) = partCell o ++ partCells l := by simp [partCells]
    have e4 : (partCell o).length = 2 := rfl
    rw [e]
    cases i with
    | zero =>
      rw [Nat.zero_mul, Nat.zero_add, List.getElem?_append_left (by omega)]
      rfl
    | succ i =>
      rw [List.getElem?_append_right (by omega), show (i + 1) * 2 + j - (partCell o).length = i * 2 + j by omega]
      exact ih i (by simpa using h)
/-- Spans that rise and don't meet. -/
def Rising : List PartR → Prop
  | [] => True
  | [p] => p.lo < p.hi ∧ p.hi ≤ 4611686018427387904
  | p :: q :: L => p.lo < p.hi ∧ p.hi ≤ q.lo ∧ Rising (q :: L)
/-- The blocks of a set: none, or one. -/
def BlocksAt (w : World) (bv : Value) (L : List PartR) : Prop :=
  (bv = .slice none 0 0 ∧ L = []) ∨
  ∃ ob oc ib n cap, bv = .slice (some ⟨ob, 0, none⟩) 1 oc ∧ 1 ≤ oc ∧ oc ≤ maxLen ∧ ob < w.heap.size ∧ w.cell? ⟨ob, 0, none⟩ = some (.slice (some ⟨ib, 0, none⟩) n cap) ∧ n = L.length ∧ 0 < n ∧ w.ownsRow 0 111 2 (.slice (some ⟨ib, 0, none⟩) n cap) n (partCells L)
def spB (lo hi : Int) : Bool := decide (0 ≤ lo ∧ lo < hi ∧ hi ≤ 4611686018427387904)
set_option maxRecDepth 100000 in
theorem isSpan_any (lo hi : Int) (w : World) :
    Calls Try.prog 61 #[.int .i64 lo, .int .i64 hi] w fun e w' => e = .returned (.bool (spB lo hi)) ∧ w = w' := by
  by_cases h1 : 0 ≤ lo
  · by_cases h2 : lo < hi
    · have hb : spB lo hi = decide (hi ≤ 4611686018427387904) := by unfold spB; simp [h1, h2]
      rw [hb]
      clear hb
      go_enter Try.func61, Try.ntmps61
      go_wp2
      go_ret
      exact ⟨rfl, rfl⟩
    · have hb : spB lo hi = false := decide_eq_false (by omega)
      rw [hb]
      clear hb
      go_enter Try.func61, Try.ntmps61
      go_wp2
      go_ret
      exact ⟨rfl, rfl⟩
  · have hb : spB lo hi = false := decide_eq_false (by omega)
    rw [hb]
    clear hb
    go_enter Try.func61, Try.ntmps61
    go_wp2
    go_ret
    exact ⟨rfl, rfl⟩
set_option maxRecDepth 100000 in
theorem list_any (g : Nat) (bv : Value) (w : World) (h : w.cell? ⟨g, 0, none⟩ = some bv) :
    Calls Try.prog 72 #[.pointer (some ⟨g, 0, none⟩)] w fun e w' => e = .returned bv ∧ w = w' := by
  go_enter Try.func72, Try.ntmps72
  go_wp2
  go_ret
  exact ⟨rfl, rfl⟩
set_option maxRecDepth 100000 in
set_option maxHeartbeats 1000000 in
theorem searchA (c1 c2 : Value) (n r : Nat) (hn : n ≤ 1000000000) (hr : r ≤ n) (w : World)
    (hf : ∀ h, h < n → ∀ z, Calls Try.prog 75 #[.int .i64 h, c1, c2] (w.drewN z) fun e w' => e = .returned (.bool (decide (r ≤ h))) ∧ ∃ z', w' = w.drewN z') :
    Calls Try.prog 74 #[.int .i64 n, .func (.func 75) #[] #[c1, c2]] w fun e w' => e = .returned (.int .i64 r) ∧ ∃ z, w' = w.drewN z := by
  have HF := hid hf
  clear hf
  go_enter Try.func74, Try.ntmps74
  go_wp2
  go_loopw [5, 6] (fun i j wr => ∃ a b : Nat, a ≤ r ∧ r ≤ b ∧ b ≤ n ∧ i = .int .i64 a ∧ j = .int .i64 b ∧ ∃ z, wr = w.drewN z) (fun i j _ => (intOf j).toNat - (intOf i).toNat)
  case atStart => exact ⟨0, n, Nat.zero_le _, hr, Nat.le_refl _, rfl, rfl, 0, rfl⟩
  case round =>
    obtain ⟨a, b, ha, hb, hbn, rfl, rfl, z, rfl⟩ := hrel
    by_cases hlt : a < b
    · obtain ⟨m, hm⟩ : ∃ m, (a + b) / 2 = m := ⟨_, rfl⟩
      have hm2 : ((a : Int) + b) / 2 = m := by omega
      have hma : a ≤ m := by omega
      have hmb : m < b := by omega
      have HM := hid hm
      have hc := HF.out m (by omega) z
      have HC := hid hc
      clear hm hc
      by_cases hrm : r ≤ m
      · have HR := hid (show decide (r ≤ m) = true from decide_eq_true hrm)
        go_wp2_with fail
        refine HC.out.mono ?_
        rintro e w2 ⟨rfl, z2, rfl⟩
        rw [HR.out]
        go_wp2
        go_roundw
        case rel => exact ⟨a, m, ha, hrm, by omega, rfl, rfl, z2, rfl⟩
        case measure => simp [intOf]; omega
      · have HR := hid (show decide (r ≤ m) = false from decide_eq_false hrm)
        go_wp2_with fail
        refine HC.out.mono ?_
        rintro e w2 ⟨rfl, z2, rfl⟩
        rw [HR.out]
        go_wp2
        go_roundw
        case rel => exact ⟨m + 1, b, by omega, hb, hbn, by go_num, rfl, z2, rfl⟩
        case measure => simp [intOf]; omega
    · have hab : a = r := by omega
      subst hab
      go_wp2
      go_returns
      exact ⟨rfl, z, rfl⟩
set_option maxRecDepth 100000 in
set_option maxHeartbeats 1000000 in
theorem searchB (c1 c2 c3 : Value) (n r : Nat) (hn : n ≤ 1000000000) (hr : r ≤ n) (w : World)
    (hf : ∀ h, h < n → ∀ z, Calls Try.prog 76 #[.int .i64 h, c1, c2, c3] (w.drewN z) fun e w' => e = .returned (.bool (decide (r ≤ h))) ∧ ∃ z', w' = w.drewN z') :
    Calls Try.prog 74 #[.int .i64 n, .func (.func 76) #[] #[c1, c2, c3]] w fun e w' => e = .returned (.int .i64 r) ∧ ∃ z, w' = w.drewN z := by
  have HF := hid hf
  clear hf
  go_enter Try.func74, Try.ntmps74
  go_wp2
  go_loopw [5, 6] (fun i j wr => ∃ a b : Nat, a ≤ r ∧ r ≤ b ∧ b ≤ n ∧ i = .int .i64 a ∧ j = .int .i64 b ∧ ∃ z, wr = w.drewN z) (fun i j _ => (intOf j).toNat - (intOf i).toNat)
  case atStart => exact ⟨0, n, Nat.zero_le _, hr, Nat.le_refl _, rfl, rfl, 0, rfl⟩
  case round =>
    obtain ⟨a, b, ha, hb, hbn, rfl, rfl, z, rfl⟩ := hrel
    by_cases hlt : a < b
    · obtain ⟨m, hm⟩ : ∃ m, (a + b) / 2 = m := ⟨_, rfl⟩
      have hm2 : ((a : Int) + b) / 2 = m := by omega
      have hma : a ≤ m := by omega
      have hmb : m < b := by omega
      have HM := hid hm
      have hc := HF.out m (by omega) z
      have HC := hid hc
      clear hm hc
      by_cases hrm : r ≤ m
      · have HR := hid (show decide (r ≤ m) = true from decide_eq_true hrm)
        go_wp2_with fail
        refine HC.out.mono ?_
        rintro e w2 ⟨rfl, z2, rfl⟩
        rw [HR.out]
        go_wp2
        go_roundw
        case rel => exact ⟨a, m, ha, hrm, by omega, rfl, rfl, z2, rfl⟩
        case measure => simp [intOf]; omega
      · have HR := hid (show decide (r ≤ m) = false from decide_eq_false hrm)
        go_wp2_with fail
        refine HC.out.mono ?_
        rintro e w2 ⟨rfl, z2, rfl⟩
        rw [HR.out]
        go_wp2
        go_roundw
        case rel => exact ⟨m + 1, b, by omega, hb, hbn, by go_num, rfl, z2, rfl⟩
        case measure => simp [intOf]; omega
    · have hab : a = r := by omega
      subst hab
      go_wp2
      go_returns
      exact ⟨rfl, z, rfl⟩
/-- The span at an index ends behind the byte. -/
def hiAt (L : List PartR) (i : Nat) : Nat := (L.map (·.hi)).getD i 0
theorem part_cells {w : World} {ib n cap : Nat} {L : List PartR} (h : w.ownsRow 0 111 2 (.slice (some ⟨ib, 0, none⟩) n cap) n (partCells L)) (hn : n = L.length) {i : Nat} (hi : i < n) :
    w.cell? ⟨ib, i * 2, none⟩ = some (.int .i64 ((L[i]'(by omega)).lo : Nat)) ∧ w.cell? ⟨ib, i * 2 + 1, none⟩ = some (.int .i64 ((L[i]'(by omega)).hi : Nat)) := by
  have hc := h.cells (g := ib) rfl
  have key : ∀ j, j < 2 → ∀ u, (partCell (L[i]'(by omega)))[j]? = some u → w.cell? ⟨ib, i * 2 + j, none⟩ = some u := fun j hj u hu => by
    have := hc (i * 2 + j) u (by rw [partCells_get L i (by omega) j hj, hu])
    have ea : (Addr.add ⟨ib, 0, none⟩ (i * 2 + j)) = ⟨ib, i * 2 + j, none⟩ := by
      unfold Addr.add
      by_cases hz : i * 2 + j = 0
      · simp [hz]
      · simp; omega
    rwa [ea] at this
  exact ⟨by simpa using key 0 (by omega) _ rfl, key 1 (by omega) _ rfl⟩
set_option maxRecDepth 100000 in
set_option maxHeartbeats 1000000 in
theorem last_any (b1 a1 ob oc ib n cap : Nat) (L : List PartR) (at1 : Int) (hoc : 1 ≤ oc) (hn : n = L.length) (hn0 : 0 < n) (hn9 : n ≤ 1000000000) (w : World) (k1 : w.cell? ⟨b1, 0, none⟩ = some (.slice (some ⟨ob, 0, none⟩) 1 oc)) (k2 : w.cell? ⟨a1, 0, none⟩ = some (.int .i64 at1)) (k3 : w.cell? ⟨ob, 0, none⟩ = some (.slice (some ⟨ib, 0, none⟩) n cap))
    (k4 : w.ownsRow 0 111 2 (.slice (some ⟨ib, 0, none⟩) n cap) n (partCells L)) :
    Calls Try.prog 75 #[.int .i64 0, .pointer (some ⟨b1, 0, none⟩), .pointer (some ⟨a1, 0, none⟩)] w fun e w' => e = .returned (.bool (decide (at1 < ((L[n - 1]'(by omega)).hi : Nat)))) ∧ ∃ z, w' = w.drewN z := by
  have c1 := (part_cells k4 hn (i := n - 1) (by omega)).2
  generalize (L[n - 1]'(by omega)).hi = hh at *
  obtain ⟨m, rfl⟩ : ∃ m, n = m + 1 := ⟨n - 1, by omega⟩
  rw [Nat.add_sub_cancel] at c1
  clear k4 hn hn0
  go_enter Try.func75, Try.ntmps75
  go_wp2_with fail
  have em : ((m + 1 : Nat) : Int) - 1 = m := by omega
  go_quiet (fail)
  go_wp2
  go_returns
  exact ⟨by simp, nq, rfl⟩
set_option maxRecDepth 100000 in
set_option maxHeartbeats 1000000 in
theorem each_any (b1 x1 a1 ob oc ib n cap : Nat) (L : List PartR) (at1 : Int) (hoc : 1 ≤ oc) (hn : n = L.length) (hn9 : n ≤ 1000000000) (h : Nat) (hh : h < n) (w : World) (k1 : w.cell? ⟨b1, 0, none⟩ = some (.slice (some ⟨ob, 0, none⟩) 1 oc)) (k5 : w.cell? ⟨x1, 0, none⟩ = some (.int .i64 0)) (k2 : w.cell? ⟨a1, 0, none⟩ = some (.int .i64 at1)) (k3 : w.cell? ⟨ob, 0, none⟩ = some (.slice (some ⟨ib, 0, none⟩) n cap))
    (k4 : w.ownsRow 0 111 2 (.slice (some ⟨ib, 0, none⟩) n cap) n (partCells L)) :
    Calls Try.prog 76 #[.int .i64 h, .pointer (some ⟨b1, 0, none⟩), .pointer (some ⟨x1, 0, none⟩), .pointer (some ⟨a1, 0, none⟩)] w fun e w' => e = .returned (.bool (decide (at1 < ((L[h]'(by omega)).hi : Nat)))) ∧ ∃ z, w' = w.drewN z := by
  have c1 := (part_cells k4 hn hh).2
  generalize (L[h]'(by omega)).hi = hi at *
  clear k4 hn
  go_enter Try.func76, Try.ntmps76
  go_wp2_with fail
  go_quiet (fail)
  go_wp2
  go_returns
  exact ⟨rfl, nq, rfl⟩
end Go.Proofs.Ytciaebhkemdilab
