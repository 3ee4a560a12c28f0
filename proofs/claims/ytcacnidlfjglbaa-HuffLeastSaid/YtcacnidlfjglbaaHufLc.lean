/- lightest, at few nodes (contract of the function). -/
import Derived.Test.YtcacnidlfjglbaaHufLb
import Derived.Test.YtcacnidlfjglbaaSortL
namespace Go.Proofs.Ytcacnidlfjglbaa
open Go.RowKit Go.Conc
set_option linter.unusedVariables false
def mLt (x y : NdM) : Bool := decide (x.1 < y.1)
def sortM (M : List NdM) : List NdM := sortL mLt M
theorem insRev_congr {α : Type} {lt lt' : α → α → Bool} {x : α} : ∀ {r : List α}, (∀ y ∈ r, lt x y = lt' x y) → insRev lt x r = insRev lt' x r
  | [], _ => rfl
  | y :: r, h => by
    unfold insRev
    rw [h y (List.mem_cons_self ..), insRev_congr (fun z hz => h z (List.mem_cons_of_mem _ hz))]
theorem fold_congr {α : Type} {lt lt' : α → α → Bool} : ∀ {l r : List α}, (∀ x ∈ l, ∀ y, y ∈ l ∨ y ∈ r → lt x y = lt' x y) → l.foldl (fun r x => insRev lt x r) r = l.foldl (fun r x => insRev lt' x r) r
  | [], r, _ => rfl
  | x :: l, r, h => by
    rw [List.foldl_cons, List.foldl_cons, insRev_congr (lt' := lt') (fun y hy => h x (List.mem_cons_self ..) y (.inr hy))]
    refine fold_congr fun z hz y hy => h z (List.mem_cons_of_mem _ hz) y ?_
    rcases hy with hy | hy
    · exact .inl (List.mem_cons_of_mem _ hy)
    · rcases (insRev_mem lt' x r y).1 hy with e | e
      · exact .inl (by rw [e]; exact List.mem_cons_self ..)
      · exact .inr e
theorem sortL_congr {α : Type} {lt lt' : α → α → Bool} {l : List α} (h : ∀ x ∈ l, ∀ y ∈ l, lt x y = lt' x y) : sortL lt l = sortL lt' l := by
  unfold sortL
  rw [fold_congr (fun x hx y hy => h x hx y (hy.elim id (fun e => by simp at e)))]
/-- Nodes as pairs of where they lie and what they are. -/
def NodesZ (X : Nat → Prop) (W : World) (Z : List (Nd × NdM)) : Prop := ∀ z ∈ Z, z.1.1 = ((z.2.1 : Nat) : Int) ∧ SymR X W z.1 z.2.2
theorem NodesM.z {X : Nat → Prop} {W : World} {N : List Nd} {M : List NdM} (h : NodesM X W N M) : ∃ Z : List (Nd × NdM), Z.map Prod.fst = N ∧ Z.map Prod.snd = M ∧ NodesZ X W Z := by
  refine ⟨N.zip M, ?_, ?_, ?_⟩
  · rw [List.map_fst_zip]; exact Nat.le_of_eq h.1
  · rw [List.map_snd_zip]; exact Nat.le_of_eq h.1.symm
  · intro z hz
    obtain ⟨i, hi, rfl⟩ := List.getElem_of_mem hz
    rw [List.length_zip] at hi
    have := h.2 i (by omega) (by omega)
    simpa using this
theorem NodesZ.m {X : Nat → Prop} {W : World} {Z : List (Nd × NdM)} (h : NodesZ X W Z) : NodesM X W (Z.map Prod.fst) (Z.map Prod.snd) := by
  refine ⟨by simp, fun i h1 h2 => ?_⟩
  have hz : i < Z.length := by simpa using h1
  have := h Z[i] (List.getElem_mem hz)
  simpa using this
theorem NodesM.sort {X : Nat → Prop} {W : World} {N : List Nd} {M : List NdM} (h : NodesM X W N M) : NodesM X W (sortL ndLt N) (sortM M) := by
  obtain ⟨Z, rfl, rfl, hz⟩ := h.z
  have e1 : sortL ndLt (Z.map Prod.fst) = (sortL (fun z z' => ndLt z.1 z'.1) Z).map Prod.fst := (sortL_map Prod.fst (fun z z' => ndLt z.1 z'.1) ndLt (fun _ _ => rfl) Z).symm
  have e2 : sortM (Z.map Prod.snd) = (sortL (fun z z' => mLt z.2 z'.2) Z).map Prod.snd := (sortL_map Prod.snd (fun z z' => mLt z.2 z'.2) mLt (fun _ _ => rfl) Z).symm
  have e3 : sortL (fun z z' : Nd × NdM => ndLt z.1 z'.1) Z = sortL (fun z z' => mLt z.2 z'.2) Z := sortL_congr fun x hx y hy => by
    have a := (hz x hx).1
    have b := (hz y hy).1
    unfold ndLt mLt
    rw [decide_eq_decide, a, b]; omega
  rw [e1, e2, e3]
  exact NodesZ.m fun z hzz => hz z ((sortL_mem _ _ _).1 hzz)
theorem NodesM.append {X : Nat → Prop} {W : World} {N N' : List Nd} {M M' : List NdM} (h : NodesM X W N M) (h' : NodesM X W N' M') : NodesM X W (N ++ N') (M ++ M') := by
  obtain ⟨Z, rfl, rfl, hz⟩ := h.z
  obtain ⟨Z', rfl, rfl, hz'⟩ := h'.z
  rw [← List.map_append, ← List.map_append]
  refine NodesZ.m fun z hzz => ?_
  rcases List.mem_append.1 hzz with e | e
  · exact hz z e
  · exact hz' z e
theorem NodesM.take {X : Nat → Prop} {W : World} {N : List Nd} {M : List NdM} (h : NodesM X W N M) (n : Nat) : NodesM X W (N.take n) (M.take n) := by
  obtain ⟨Z, rfl, rfl, hz⟩ := h.z
  rw [← List.map_take, ← List.map_take]
  exact NodesZ.m fun z hzz => hz z (List.mem_of_mem_take hzz)
theorem ndCells_append (N N' : List Nd) : ndCells (N ++ N') = ndCells N ++ ndCells N' := by simp [ndCells]
/-- What lightest's list is behind so many rounds. -/
def lvlM (M : List NdM) : Nat → List NdM
  | 0 => sortM M
  | k + 1 => sortM (M ++ prM (lvlM M k))
theorem lvlM_len (M : List NdM) : ∀ k, M.length ≤ (lvlM M k).length ∧ (lvlM M k).length ≤ 2 * M.length
  | 0 => by
    show _ ≤ (sortL mLt M).length ∧ (sortL mLt M).length ≤ _
    rw [sortL_len]; omega
  | k + 1 => by
    have := lvlM_len M k
    show _ ≤ (sortL mLt (M ++ prM (lvlM M k))).length ∧ (sortL mLt (M ++ prM (lvlM M k))).length ≤ _
    rw [sortL_len, List.length_append, prM_len]; omega
/-- Bounds on a node. -/
def Bnd (k : Nat) (m : NdM) : Prop := m.1 ≤ 1099511627776 * 2 ^ k ∧ m.2.length ≤ 2 ^ k
theorem prM_mem : ∀ (M : List NdM) (k : Nat), (∀ m ∈ M, Bnd k m) → ∀ m ∈ prM M, Bnd (k + 1) m
  | [], _, _, m, hm => by simp [prM] at hm
  | [x], _, _, m, hm => by simp [prM] at hm
  | a :: b :: r, k, h, m, hm => by
    have ha := h a (by simp)
    have hb := h b (by simp)
    have hm2 : m = (a.1 + b.1, a.2 ++ b.2) ∨ m ∈ prM r := by simpa [prM] using hm
    rcases hm2 with rfl | hm
    · unfold Bnd at *
      simp only [List.length_append]
      rw [Nat.pow_succ]; omega
    · exact prM_mem r k (fun x hx => h x (by simp [hx])) m hm
theorem lvlM_bnd (M : List NdM) (h : ∀ m ∈ M, Bnd 0 m) : ∀ k, ∀ m ∈ lvlM M k, Bnd k m
  | 0, m, hm => h m ((sortL_mem mLt M m).1 hm)
  | k + 1, m, hm => by
    have := (sortL_mem mLt _ m).1 hm
    rcases List.mem_append.1 this with e | e
    · have := h m e
      unfold Bnd at *
      have hp := Nat.two_pow_pos (k + 1)
      have hp2 : 2 ^ (k + 1) ≥ 1 := hp
      have h3 : 1099511627776 * 2 ^ 0 ≤ 1099511627776 * 2 ^ (k + 1) := Nat.mul_le_mul_left _ (by simpa using hp2)
      have h4 : (2 : Nat) ^ 0 ≤ 2 ^ (k + 1) := by simpa using hp2
      exact ⟨Nat.le_trans this.1 h3, Nat.le_trans this.2 h4⟩
    · exact prM_mem _ k (lvlM_bnd M h k) m e
end Go.Proofs.Ytcacnidlfjglbaa
