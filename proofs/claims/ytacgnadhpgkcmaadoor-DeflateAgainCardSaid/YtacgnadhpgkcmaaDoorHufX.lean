/- sort.stable_func at fewer than 20 elements of k cells (contract of the function). -/
import Derived.Test.YtacgnadhpgkcmaaDoorShelfS
import Derived.Test.YtacgnadhpgkcmaaDoorOwnB
import Derived.Test.YtacgnadhpgkcmaaDoorHufA0
import Derived.Test.YtacgnadhpgkcmaaDoorHufQ
import Derived.Shelf.GgSortFunc.SmallK
namespace Go.Proofs.YtacgnadhpgkcmaaDoor
open Go.RowKit Go.Shelf Go.Lib Go.Sort
set_option linter.unusedVariables false
variable {α : Type} [Inhabited α]
set_option maxHeartbeats 1600000 in
set_option maxRecDepth 100000 in
theorem stable19 (enc : α → List Value) (k : Nat) (hk : ∀ x, (enc x).length = k) (lt : α → α → Bool) (g : Nat) (lb : Array Value) (sf : Nat) (sb : Array Value) (blk off : Nat) (d : Array α) (W : World)
    (eg : ∀ args w, (callFunc g args).run Tryd.prog w = .ok (.enter g args) w) (hless : LessReadsK Tryd.prog g lb enc k lt blk off d.size W) (hswap : SwapSwapsK Tryd.prog sf sb enc k blk off d.size)
    (hH : HoldsK enc k W blk off d) (hblk : blk < W.heap.size) (h20 : d.size < 20) :
    Calls Tryd.prog 70 #[.agg #[.func (.func g) #[] lb, .func (.func sf) #[] sb], .int .i64 d.size] W fun e w' => e = .returned (.tuple #[]) ∧ ∃ n os, w' = sortWorldK enc k W blk off n (Sort.insertionSort lt d 0 d.size) os := by
  have hSW := (SWK.start hH).alloc (.cells #[.func (.func g) #[] lb, .func (.func sf) #[] sb] 132)
  have hc := Any.insertionSort_func_cells_w laysGg26 enc k hk lt g lb sf sb blk off 0 d.size d _ eg (hSW.lessReads hless hblk rfl) hswap (hSW.holds hblk hH rfl) (hSW.lt hblk) (Nat.zero_le _) (Nat.le_refl _) (by omega)
  change Calls Tryd.prog 81 #[.agg #[.func (.func g) #[] lb, .func (.func sf) #[] sb], .int .i64 0, .int .i64 d.size] _ _ at hc
  have HC := hid hc
  clear hc hless hswap hH hSW
  go_enter Tryd.func70, Tryd.ntmps70
  go_wp2
  refine wp_loop_rounds 1 ?_
  rw [rounds_succ]
  go_wp2_with (go_at_call 81; refine HC.out.mono ?_; rintro e w1 ⟨rfl, n, os, rfl⟩)
  refine wp_loop_rounds 1 ?_
  rw [rounds_succ]
  go_wp2
  go_end0
  refine ⟨rfl, n, #[.cells #[.func (.func g) #[] lb, .func (.func sf) #[] sb] 132] ++ os, ?_⟩
  unfold sortWorldK
  rw [alloc_eq_grow, ahead_grow, putRowK_grow enc k (Sort.ahead W n) _ blk off _ hblk, grow_grow]
theorem grow_block {w : World} {g n : Nat} {os : Array Obj} {F cur : Array Value} {t : TypeId} {fr : Nat × Nat} (hg : w.heap[g]? = some (.cells cur t fr)) : (grow (putRow id (Sort.ahead w n) g 0 F) os).heap[g]? = some (.cells (putCells id 0 F cur) t fr) := by
  have hl : g < w.heap.size := (Array.getElem?_eq_some_iff.1 hg).1
  have h2 : (putRow id (Sort.ahead w n) g 0 F).heap[g]? = some (.cells (putCells id 0 F cur) t fr) := by
    show (w.heap.modify g _)[g]? = _
    rw [Array.getElem?_modify, if_pos rfl, hg]
    rfl
  show ((putRow id (Sort.ahead w n) g 0 F).heap ++ os)[g]? = _
  rw [Array.getElem?_append_left (by
    show g < (w.heap.modify g _).size
    simpa using hl)]
  exact h2
theorem grow_other {w : World} {g n i : Nat} {os : Array Obj} {F : Array Value} (hi : i < w.heap.size) (hne : i ≠ g) : (grow (putRow id (Sort.ahead w n) g 0 F) os).heap[i]? = w.heap[i]? := by
  show ((w.heap.modify g _) ++ os)[i]? = _
  rw [Array.getElem?_append_left (by simpa using hi), Array.getElem?_modify, if_neg (fun e => hne e.symm)]
theorem putCells_list (F cur : Array Value) (h : F.size ≤ cur.size) : (putCells id 0 F cur).toList.take F.size = F.toList := by
  apply List.ext_getElem?
  intro i
  rw [List.getElem?_take]
  by_cases hi : i < F.size
  · rw [if_pos hi]
    have hc : i < cur.size := by omega
    simp [putCells, hi, hc]
  · rw [if_neg hi, List.getElem?_eq_none (by simpa using hi)]
theorem own_putRow {w : World} {B t size g n cap m : Nat} {xs : List Value} {os : Array Obj} (h : w.ownsRow B t size (.slice (some ⟨g, 0, none⟩) n cap) n xs) (F : Array Value) (hF : F.size = n * size) :
    (grow (putRow id (Sort.ahead w m) g 0 F) os).ownsRow B t size (.slice (some ⟨g, 0, none⟩) n cap) n F.toList := by
  obtain ⟨cur, hg, hge, h1, h2, h3, h4⟩ := ownp_row h
  have hle : n * size ≤ cap * size := Nat.mul_le_mul_right _ h1
  refine ⟨by simpa using hF, .inr ⟨g, cap, _, rfl, hge, grow_block hg, h1, h2, by simpa [putCells] using h3, ?_⟩⟩
  rw [← hF]
  exact putCells_list F cur (by omega)
theorem below_putRow {w : World} {B g m : Nat} {os : Array Obj} {F : Array Value} (hB : B ≤ g) (hw : B ≤ w.heap.size) : Below B w (grow (putRow id (Sort.ahead w m) g 0 F) os) :=
  ⟨rfl, rfl, rfl, by
    show w.heap.size ≤ ((w.heap.modify g _) ++ os).size
    simp, fun i hi => grow_other (by omega) (by omega)⟩
/-- A node: its weight, and where its symbols lie. -/
abbrev Nd := Int × Option Addr × Nat × Nat
def ndV (x : Nd) : Value := .slice x.2.1 x.2.2.1 x.2.2.2
def ndE (x : Nd) : List Value := [.int .i64 x.1, ndV x]
def ndLt (x y : Nd) : Bool := decide (x.1 < y.1)
def ndCells (N : List Nd) : List Value := N.flatMap ndE
theorem flat_nd (N : List Nd) : (flatK ndE 2 N.toArray).toList = ndCells N := by
  apply List.ext_getElem?
  intro m
  have hl : (ndCells N).length = 2 * N.length := flat2_len ndE (fun _ => rfl) N
  by_cases hm : m < 2 * N.length
  · have hj : m / 2 < N.length := by omega
    have e : m = 2 * (m / 2) + m % 2 := by omega
    have hc : m % 2 < 2 := Nat.mod_lt _ (by decide)
    have h1 : (ndCells N)[m]? = (ndE N[m / 2])[m % 2]? := by
      have := flat2_get ndE (fun _ => rfl) N (m / 2) (m % 2) hj hc
      rw [← e] at this
      exact this
    rw [h1]
    have h2 : m < (flatK ndE 2 N.toArray).size := by simp; omega
    have h3 := get_flatK ndE 2 N.toArray m (by simp; omega)
    rw [getElem!_pos _ m h2] at h3
    rw [Array.getElem?_toList, Array.getElem?_eq_getElem h2, h3]
    have h4 : N.toArray[m / 2]! = N[m / 2] := by rw [getElem!_pos _ _ (by simpa using hj)]; simp
    rw [h4]
    have : m % 2 = 0 ∨ m % 2 = 1 := by omega
    rcases this with h | h <;> rw [h] <;> rfl
  · rw [List.getElem?_eq_none (by simp; omega), List.getElem?_eq_none (by omega)]
theorem holds_nd {w : World} {B g cap : Nat} {N : List Nd} (h : w.ownsRow B 115 2 (.slice (some ⟨g, 0, none⟩) N.length cap) N.length (ndCells N)) : HoldsK ndE 2 w g 0 N.toArray := fun j hj => by
  have e := flat_nd N
  have h1 : (ndCells N)[j]? = some (flatK ndE 2 N.toArray)[j]! := by
    rw [← e, Array.getElem?_toList, Array.getElem?_eq_getElem hj, getElem!_pos _ j hj]
  rw [Nat.zero_add]
  exact ⟨ownp_cell h h1, ownp_frozen h j⟩
end Go.Proofs.YtacgnadhpgkcmaaDoor
