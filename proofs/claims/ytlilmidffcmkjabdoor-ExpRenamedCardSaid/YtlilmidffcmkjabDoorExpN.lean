/- Expressions, plain: what names are called makes no difference. No program in it. -/
import Derived.Test.YtlilmidffcmkjabDoorPlnE
namespace Go.Proofs.YtlilmidffcmkjabDoor
open Go.RowKit
set_option linter.unusedVariables false
def nmN : ByteArray := ⟨#[110]⟩
def nmF : ByteArray := ⟨#[102, 114, 101, 115, 104]⟩
def rnW (w : ByteArray) : ByteArray := if w = nmN then nmF else w
def rnX (x : ExpR) : ExpR := { x with name := rnW x.name }
def rnB (b : BindR) : BindR := { b with name := rnW b.name }
theorem nm_facts : nmN ≠ nmF ∧ nmN ≠ nilS ∧ nmF ≠ nilS ∧ nameB nmN = true ∧ nameB nmF = true := by decide
theorem rnW_nil (w : ByteArray) : rnW w = nilS ↔ w = nilS := by
  obtain ⟨h1, h2, h3, _⟩ := nm_facts
  unfold rnW
  split
  · rename_i c
    subst c
    exact ⟨fun h => absurd h h3, fun h => absurd h h2⟩
  · exact Iff.rfl
theorem rnW_name (w : ByteArray) : nameB (rnW w) = nameB w := by
  obtain ⟨_, _, _, h4, h5⟩ := nm_facts
  unfold rnW
  split
  · rename_i c
    subst c
    rw [h4, h5]
  · rfl
theorem rnW_inj {v w : ByteArray} (hv : v ≠ nmF) (hw : w ≠ nmF) : rnW v = rnW w ↔ v = w := by
  unfold rnW
  constructor
  · intro h
    split at h <;> split at h
    · rename_i a b; rw [a, b]
    · exact absurd h.symm hw
    · exact absurd h hv
    · exact h
  · intro h
    rw [h]
theorem item_rn (x : ExpR) (i : Nat) : itemB (rnX x) i = itemB x i := by
  have hn : decide (rnW x.name = nilS) = decide (x.name = nilS) := by
    have := rnW_nil x.name
    by_cases h : x.name = nilS
    · rw [decide_eq_true h, decide_eq_true (this.2 h)]
    · rw [decide_eq_false h, decide_eq_false (fun e => h (this.1 e))]
  unfold itemB leafB operB rnX
  simp only
  rw [hn, rnW_name]
theorem allGo_rn : ∀ (l : List ExpR) (i : Nat), allGo (l.map rnX) i = allGo l i
  | [], _ => rfl
  | x :: r, i => by rw [List.map_cons, allGo, allGo, item_rn, allGo_rn r]
theorem check_rn (l : List ExpR) : checkB (l.map rnX) = checkB l := by
  unfold checkB
  rw [List.length_map, allGo_rn]
theorem find_rn {w : ByteArray} (hw : w ≠ nmF) : ∀ (names : List BindR), (∀ b ∈ names, b.name ≠ nmF) → findR (names.map rnB) (rnW w) = findR names w
  | [], _ => rfl
  | b :: r, h => by
    have hb := h b (by simp)
    have ih := find_rn hw r fun x hx => h x (by simp [hx])
    have hi := rnW_inj hb hw
    rw [List.map_cons, findR, findR, ih]
    show (if rnW b.name = rnW w then _ else _) = _
    by_cases c : b.name = w
    · rw [if_pos c, if_pos (hi.2 c)]
      rfl
    · rw [if_neg c, if_neg (fun e => c (hi.1 e))]
theorem one_rn {x : ExpR} (hx : x.name ≠ nmF) (t : List (Nat × Int)) {names : List BindR} (h : ∀ b ∈ names, b.name ≠ nmF) : oneW (rnX x) t (names.map rnB) = oneW x t names := by
  unfold oneW
  have hn := rnW_nil x.name
  show (if rnW x.name ≠ nilS then findR (names.map rnB) (rnW x.name) else _) = _
  by_cases c : x.name = nilS
  · have c2 : rnW x.name = nilS := hn.2 c
    have c3 : rnW nilS = nilS := (rnW_nil nilS).2 rfl
    simp only [rnX, c, c3, ne_eq, not_true_eq_false, if_false]
  · rw [if_pos (fun e => c (hn.1 e)), if_pos c, find_rn hx names h]
theorem getD_rn (l : List ExpR) (k : Nat) : (l.map rnX).getD k ⟨nilS, nilS, 0, 0, 0⟩ = rnX (l.getD k ⟨nilS, nilS, 0, 0, 0⟩) := by
  rw [List.getD_eq_getElem?_getD, List.getD_eq_getElem?_getD, List.getElem?_map]
  cases l[k]? with
  | none => decide
  | some x => rfl
theorem getD_ok {l : List ExpR} (h : ∀ x ∈ l, x.name ≠ nmF) (k : Nat) : (l.getD k ⟨nilS, nilS, 0, 0, 0⟩).name ≠ nmF := by
  rw [List.getD_eq_getElem?_getD]
  cases e : l[k]? with
  | none => exact fun h => nm_facts.2.2.1 h.symm
  | some x => exact h x (List.mem_of_getElem? e)
theorem tab_rn {l : List ExpR} {names : List BindR} (hl : ∀ x ∈ l, x.name ≠ nmF) (hn : ∀ b ∈ names, b.name ≠ nmF) : ∀ k, tabW (l.map rnX) (names.map rnB) k = tabW l names k
  | 0 => rfl
  | k + 1 => by rw [tabW, tabW, tab_rn hl hn k, getD_rn, one_rn (getD_ok hl k) _ hn]
theorem wrt_rn {l : List ExpR} {names : List BindR} (hl : ∀ x ∈ l, x.name ≠ nmF) (hn : ∀ b ∈ names, b.name ≠ nmF) (i : Nat) : wrt (l.map rnX) (names.map rnB) i = wrt l names i := by
  unfold wrt
  rw [tab_rn hl hn, getD_rn, one_rn (getD_ok hl i) _ hn]
end Go.Proofs.YtlilmidffcmkjabDoor
