/- copy and parts (for spans without values). -/
import Derived.Test.YtciaebhkemdilabRvP
import Derived.Laws.CopyRow
import Derived.Lib.AppendZerosOnto
import Derived.Lib.Overlaps
import Derived.Shelf.Spec.SlicesInsert
namespace Go.Proofs.Ytciaebhkemdilab
open Go.RowKit Go.Conc
set_option linter.unusedVariables false
set_option linter.unusedSimpArgs false
theorem run_copy_rowS {P : Program} (w : World) (dT sT ty elem : TypeId) (size : Nat) (g o dLen dCap : Nat) (a : Addr) (sLen sCap : Nat) (cur : Array Value) (t : TypeId) (cs : List Value)
    (hu : P.underlying dT = some (.slice elem)) (hs : (P.info? elem).map (·.size) = some size)
    (hg : w.heap[g]? = some (.cells cur t (0, 0))) (hn : cs.length = Nat.min sLen dLen * size)
    (hsrc : ∀ j v, cs[j]? = some v → w.cell? (a.add j) = some v) (hfit : o + cs.length ≤ cur.size) (h1 : ∀ v ∈ cs, v.oneCell' = true) :
    (Builtin.copy_ #[dT, sT] ty #[.slice (some ⟨g, o, none⟩) dLen dCap, .slice (some a) sLen sCap]).run P w =
      .ok (goInt (Nat.min sLen dLen)) (w.setRow g (cur.toList.take o ++ cs ++ cur.toList.drop (o + cs.length)).toArray) := by
  have hl := run_loadCells_list (P := P) w a cs hsrc
  have hst := run_storeCells_at P g o t cs 0 cur w hg (by simpa using hfit) h1
  cases hq : P.info? elem with
  | none => simp [hq] at hs
  | some i =>
    have hi : i.size = size := by simpa [hq] using hs
    simp [Builtin.copy_, run_underlying hu, Builtin.lenOf, Builtin.firstCells, sizeOf, typeInfo, hq, hi, ← hn, hl, hst]
theorem shift_lists {α : Type} (A pc : List α) (a N : Nat) (ha : a ≤ N) (hN : N + pc.length ≤ A.length) (C : List α) (hC : A.take N = C) (R1 : List α) (h1 : R1 = A.take (a + pc.length) ++ C.drop a ++ A.drop (a + pc.length + (C.drop a).length)) :
    R1.take a ++ pc ++ R1.drop (a + pc.length) = C.take a ++ pc ++ C.drop a ++ A.drop (N + pc.length) := by
  have hCl : C.length = N := by rw [← hC, List.length_take]; omega
  have e1 : R1.take a = C.take a := by
    rw [h1, List.append_assoc, List.take_append_of_le_length (by rw [List.length_take]; omega), List.take_take, ← hC, List.take_take]
    congr 1; omega
  have e2 : R1.drop (a + pc.length) = C.drop a ++ A.drop (N + pc.length) := by
    rw [h1, List.append_assoc, List.drop_append_of_le_length (by rw [List.length_take]; omega), List.drop_take, Nat.sub_self, List.take_zero, List.nil_append, List.length_drop, hCl, show a + pc.length + (N - a) = N + pc.length by omega]
  rw [e1, e2]
  simp only [List.append_assoc]
theorem grow_lists {α : Type} (C pc Z : List α) (a : Nat) (ha : a ≤ C.length) (hZ : pc.length + (C.length - a) ≤ Z.length) (R1 R2 : List α) (h1 : R1 = (C.take a ++ Z).take a ++ pc ++ (C.take a ++ Z).drop (a + pc.length)) (h2 : R2 = R1.take (a + pc.length) ++ C.drop a ++ R1.drop (a + pc.length + (C.drop a).length)) :
    R2.take (C.length + pc.length) = C.take a ++ pc ++ C.drop a ∧ R2.length = a + Z.length := by
  have hta : (C.take a).length = a := by rw [List.length_take]; omega
  have e0 : (C.take a ++ Z).take a = C.take a := by rw [List.take_append_of_le_length (by omega), List.take_take]; congr 1; omega
  have e1 : (C.take a ++ Z).drop (a + pc.length) = Z.drop pc.length := by
    rw [List.drop_append, hta, List.drop_eq_nil_of_le (by omega), List.nil_append]; congr 1; omega
  have hl1 : R1.length = a + Z.length := by
    rw [h1, e0, e1]; simp only [List.length_append, List.length_drop, hta]; omega
  have e2 : R1.take (a + pc.length) = C.take a ++ pc := by
    rw [h1, e0, List.take_append_of_le_length (by simp only [List.length_append, hta]; omega), List.take_of_length_le (by simp only [List.length_append, hta]; omega)]
  constructor
  · rw [h2, e2, List.take_append_of_le_length (by simp only [List.length_append, List.length_drop, hta]; omega), List.take_of_length_le (by simp only [List.length_append, List.length_drop, hta]; omega)]
  · rw [h2, e2]
    simp only [List.length_append, List.length_drop, hta, hl1]
    omega
theorem partCells_app (L M : List PartR) : partCells (L ++ M) = partCells L ++ partCells M := by simp [partCells]
theorem partCells_one (p : PartR) : partCells [p] = partCell p := by simp [partCells]
theorem partCells_take (L : List PartR) (i : Nat) (h : i ≤ L.length) : (partCells L).take (i * 2) = partCells (L.take i) := by
  have e : partCells L = partCells (L.take i) ++ partCells (L.drop i) := by rw [← partCells_app, List.take_append_drop]
  have hl : (partCells (L.take i)).length = i * 2 := by rw [partCells_len, List.length_take]; congr 1; omega
  rw [e, List.take_append_of_le_length (by omega), List.take_of_length_le (by omega)]
theorem partCells_drop (L : List PartR) (i : Nat) (h : i ≤ L.length) : (partCells L).drop (i * 2) = partCells (L.drop i) := by
  have e : partCells L = partCells (L.take i) ++ partCells (L.drop i) := by rw [← partCells_app, List.take_append_drop]
  have hl : (partCells (L.take i)).length = i * 2 := by rw [partCells_len, List.length_take]; congr 1; omega
  rw [e, List.drop_append_of_le_length (by omega), List.drop_eq_nil_of_le (by omega), List.nil_append]
theorem partCells_put (L : List PartR) (p : PartR) (i : Nat) (h : i ≤ L.length) : partCells (L.take i ++ p :: L.drop i) = (partCells L).take (i * 2) ++ partCell p ++ (partCells L).drop (i * 2) := by
  rw [partCells_take L i h, partCells_drop L i h, show p :: L.drop i = [p] ++ L.drop i from rfl, partCells_app, partCells_app, partCells_one, List.append_assoc]
theorem partCells_lit (L : List PartR) : ∀ v ∈ partCells L, v.oneCell' = true := by
  intro v hv
  unfold partCells at hv
  obtain ⟨p, _, hp⟩ := List.mem_flatMap.1 hv
  simp [partCell] at hp
  rcases hp with rfl | rfl <;> rfl
theorem partCell_lit (p : PartR) : ∀ v ∈ partCell p, v.oneCell' = true := by
  intro v hv
  simp [partCell] at hv
  rcases hv with rfl | rfl <;> rfl
end Go.Proofs.Ytciaebhkemdilab
