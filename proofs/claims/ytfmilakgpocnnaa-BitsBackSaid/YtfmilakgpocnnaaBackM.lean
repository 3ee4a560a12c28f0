/- Plain facts on numbers that are laid one behind the other, and read again. No program in them. -/
import Derived.Test.YtfmilakgpocnnaaOpKit
import Derived.Test.YtfmilakgpocnnaaBitWC
namespace Go.Proofs.Ytfmilakgpocnnaa
open Go.RowKit
set_option linter.unusedVariables false

theorem snocInd {α : Type} {P : List α → Prop} (h0 : P []) (h1 : ∀ l a, P l → P (l ++ [a])) (l : List α) : P l := by
  have : ∀ r : List α, P r.reverse := by
    intro r
    induction r with
    | nil => exact h0
    | cons a r ih => rw [List.reverse_cons]; exact h1 _ _ ih
  have := this l.reverse
  rwa [List.reverse_reverse] at this
def layStep (p : Nat × Nat) (o : OpR) : Nat × Nat := (p.1 + o.n.toNat, p.2 + o.v * 2 ^ p.1)
def layKN (l : List OpR) : Nat × Nat := l.foldl layStep (0, 0)
def OkOps (l : List OpR) : Prop := ∀ o ∈ l, putB o.v o.n = true ∧ o.v < 4294967296
theorem layKN_snoc (l : List OpR) (o : OpR) : layKN (l ++ [o]) = ((layKN l).1 + o.n.toNat, (layKN l).2 + o.v * 2 ^ (layKN l).1) := by
  simp [layKN, layStep, List.foldl_append]
theorem putB_facts {v : Nat} {n : Int} (h : putB v n = true) : 0 ≤ n ∧ n ≤ 32 ∧ v < 2 ^ n.toNat := by
  unfold putB at h
  rw [Bool.and_eq_true] at h
  have h1 := cntB_true h.1
  exact ⟨h1.1, h1.2, of_decide_eq_true h.2⟩
theorem lay_facts (l : List OpR) : OkOps l → (layKN l).2 < 2 ^ (layKN l).1 ∧ (layKN l).1 ≤ 32 * l.length := by
  refine snocInd (P := fun l => OkOps l → (layKN l).2 < 2 ^ (layKN l).1 ∧ (layKN l).1 ≤ 32 * l.length) ?_ ?_ l
  · intro _; simp [layKN]
  · intro l o ih h
    obtain ⟨h1, h2⟩ := ih (fun x hx => h x (List.mem_append_left _ hx))
    obtain ⟨h3, h4, h5⟩ := putB_facts (h o (by simp)).1
    rw [layKN_snoc]
    refine ⟨lay_lt h1 h5, ?_⟩
    simp only [List.length_append, List.length_cons, List.length_nil]
    omega
/-- The lower bits stay as they were laid. -/
theorem lay_low (l m : List OpR) : OkOps (l ++ m) → (layKN (l ++ m)).2 % 2 ^ (layKN l).1 = (layKN l).2 ∧ (layKN l).1 ≤ (layKN (l ++ m)).1 := by
  refine snocInd (P := fun m => OkOps (l ++ m) → (layKN (l ++ m)).2 % 2 ^ (layKN l).1 = (layKN l).2 ∧ (layKN l).1 ≤ (layKN (l ++ m)).1) ?_ ?_ m
  · intro h
    have := (lay_facts l (fun x hx => h x (by simp [hx]))).1
    simp [Nat.mod_eq_of_lt this]
  · intro m o ih h
    rw [← List.append_assoc] at h ⊢
    obtain ⟨h1, h2⟩ := ih (fun x hx => h x (List.mem_append_left _ hx))
    rw [layKN_snoc]
    refine ⟨?_, by simp only; omega⟩
    simp only
    have e : 2 ^ (layKN (l ++ m)).1 = 2 ^ (layKN l).1 * 2 ^ ((layKN (l ++ m)).1 - (layKN l).1) := by
      rw [← Nat.pow_add]; congr 1; omega
    rw [e, Nat.mul_left_comm, Nat.add_mul_mod_self_left]
    exact h1
theorem leN_str (N d : Nat) (h : N < 2 ^ (8 * d)) : leN (strN N d).data.toList = N := by
  have key : ∀ d N, leN ((List.range d).map fun j => UInt8.ofNat (hiN N j % 256)) = N % 2 ^ (8 * d) := by
    intro d
    induction d with
    | zero => intro N; simp [leN, Nat.mod_one]
    | succ d ih =>
      intro N
      rw [List.range_succ, List.map_append, leN_append, ih]
      simp only [List.map_cons, List.map_nil, List.length_map, List.length_range, leN]
      have e : (UInt8.ofNat (hiN N d % 256)).toNat = N / 2 ^ (8 * d) % 2 ^ 8 := by
        simp [hiN]
      rw [e, Nat.mul_add 8 d 1, mod_split]
      simp
  have := key d N
  rw [Nat.mod_eq_of_lt h] at this
  simpa [strN] using this
theorem bv_str (M d k n : Nat) (h : M < 2 ^ (8 * d)) : bv (strN M d) k n = M / 2 ^ k % 2 ^ n := by unfold bv; rw [leN_str M d h]
/-- What is read at the i-th place. -/
theorem back_bits (l m : List OpR) (o : OpR) (T : Nat) (h : OkOps ((l ++ [o]) ++ m)) (e : T % 2 ^ (layKN ((l ++ [o]) ++ m)).1 = (layKN ((l ++ [o]) ++ m)).2) : T / 2 ^ (layKN l).1 % 2 ^ o.n.toNat = o.v := by
  obtain ⟨h1, h2⟩ := lay_low (l ++ [o]) m h
  have hl : OkOps l := fun x hx => h x (by simp [hx])
  obtain ⟨h3, _⟩ := lay_facts l hl
  obtain ⟨_, _, h5⟩ := putB_facts (h o (by simp)).1
  have e1 : T % 2 ^ (layKN (l ++ [o])).1 = (layKN (l ++ [o])).2 := by
    rw [← h1, ← e, Nat.mod_mod_of_dvd _ (Nat.pow_dvd_pow 2 h2)]
  rw [layKN_snoc] at e1
  simp only at e1
  rw [← mdm T ((layKN l).1 + o.n.toNat) (layKN l).1 o.n.toNat (Nat.le_refl _), e1, Nat.add_mul_div_right _ _ (Nat.two_pow_pos _), Nat.div_eq_of_lt h3, Nat.zero_add, Nat.mod_eq_of_lt h5]
theorem str_tail (N q : Nat) (s : ByteArray) (h : N < 2 ^ (8 * q)) : (strN (N + leN s.data.toList * 2 ^ (8 * q)) (q + s.size)).extract q (q + s.size) = s := by
  apply ByteArray.ext
  apply Array.ext
  · have := strN_size (N + leN s.data.toList * 2 ^ (8 * q)) (q + s.size)
    simp only [ByteArray.data_extract, Array.size_extract]
    have e : (strN (N + leN s.data.toList * 2 ^ (8 * q)) (q + s.size)).data.size = q + s.size := this
    rw [e]
    have : s.data.size = s.size := rfl
    omega
  · intro i h1 h2
    have hi : i < s.size := h2
    have hl : s.data.toList.length = s.size := by simp
    have e2 := leN_byte s.data.toList i (by omega)
    have e3 : hiN (N + leN s.data.toList * 2 ^ (8 * q)) (q + i) = leN s.data.toList / 2 ^ (8 * i) := by
      unfold hiN
      rw [Nat.mul_add, Nat.pow_add, ← Nat.div_div_eq_div_mul, Nat.add_mul_div_right _ _ (Nat.two_pow_pos _), Nat.div_eq_of_lt h, Nat.zero_add]
    simp only [ByteArray.data_extract, Array.getElem_extract]
    simp only [strN, List.getElem_toArray, List.getElem_map, List.getElem_range]
    rw [e3, e2]
    simp
def opCell (o : OpR) : List Value := [.int .i64 o.d, .int .u32 o.v, .int .i64 o.n, .string o.s]
def opCells (l : List OpR) : List Value := l.flatMap opCell
theorem opCells_snoc (l : List OpR) (o : OpR) : opCells (l ++ [o]) = opCells l ++ opCell o := by simp [opCells]
theorem opCells_get (l : List OpR) (i : Nat) (h : i < l.length) (j : Nat) (hj : j < 4) : (opCells l)[i * 4 + j]? = (opCell l[i])[j]? := by
  induction l generalizing i with
  | nil => simp at h
  | cons o l ih =>
    have e : opCells (o :: l) = opCell o ++ opCells l := by simp [opCells]
    have e4 : (opCell o).length = 4 := rfl
    rw [e]
    cases i with
    | zero =>
      rw [Nat.zero_mul, Nat.zero_add, List.getElem?_append_left (by omega)]
      rfl
    | succ i =>
      rw [List.getElem?_append_right (by omega), show (i + 1) * 4 + j - (opCell o).length = i * 4 + j by omega]
      exact ih i (by simpa using h)
theorem opsAt_own {w : World} {ao : Option Addr} {n cap : Nat} {l : List OpR} (h : w.ownsRow 0 30 4 (.slice ao n cap) l.length (opCells l)) (hv : ∀ o ∈ l, o.v < 4294967296) : OpsAt w ao l := fun i hi => by
  have hn : l.length ≠ 0 := by omega
  rcases h.2 with ⟨h1, h2⟩ | ⟨g, cap', cur, h1, h2⟩
  · omega
  · injection h1 with e1 e2 e3
    subst e1
    subst e2
    have hc := h.cells (g := g) rfl
    have hlt : g < w.heap.size := own_lt h (b := g) rfl
    have key : ∀ j, j < 4 → ∀ u, (opCell l[i])[j]? = some u → w.cell? ⟨g, 0 + i * 4 + j, none⟩ = some u := fun j hj u hu => by
      have := hc (i * 4 + j) u (by rw [opCells_get l i hi j hj, hu])
      have ea : (Addr.add ⟨g, 0, none⟩ (i * 4 + j)) = ⟨g, 0 + i * 4 + j, none⟩ := by
        unfold Addr.add
        by_cases hz : i * 4 + j = 0
        · simp [hz]
        · simp; omega
      rw [ea] at this
      exact this
    exact ⟨g, 0, rfl, hlt, key 0 (by omega) _ rfl, key 1 (by omega) _ rfl, key 2 (by omega) _ rfl, key 3 (by omega) _ rfl, hv _ (List.getElem_mem _)⟩
end Go.Proofs.Ytfmilakgpocnnaa
