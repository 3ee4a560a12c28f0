/- ascending at fewer than 20 nodes (contract of the function). -/
import Derived.Test.YtacgnadhpgkcmaaDoorHufX
namespace Go.Proofs.YtacgnadhpgkcmaaDoor
open Go.RowKit Go.Shelf Go.Lib Go.Sort
set_option linter.unusedVariables false
set_option maxHeartbeats 2000000 in
theorem less_nd (rb cap Bs n : Nat) (W : World) (G : Nat → Int) (hs : W.cell? ⟨Bs, 0, none⟩ = some (.slice (some ⟨rb, 0, none⟩) n cap)) (hc : ∀ t, t < n → W.cell? ⟨rb, t * 2, none⟩ = some (.int .i64 (G t))) (i j : Nat) (hi : i < n) (hj : j < n) (hn : n < 4611686018427387904) :
    Calls Tryd.prog 66 #[.int .i64 i, .int .i64 j, .pointer (some ⟨Bs, 0, none⟩)] W fun e w' => e = .returned (.bool (decide (G i < G j))) ∧ ∃ q, w' = W.drewN q := by
  have ci := hc i hi
  have cj := hc j hj
  have hii : (i : Int) < n := by omega
  have hji : (j : Int) < n := by omega
  clear hc
  go_enter Tryd.func66, Tryd.ntmps66
  go_wp2
  go_quiet (fail)
  go_wp2
  go_ret
  exact ⟨rfl, nq, rfl⟩
theorem ndFacts : (Tryd.prog.info? 115).map (fun i => (i.hasPointers, i.bytes, i.size)) = some (true, 32, 2) := by kernel_rfl
theorem slFacts : (Tryd.prog.info? 110).map (fun i => i.desc) = some (.slice 115) := by kernel_rfl
theorem nd_swapper (ie : TypeInfo) (h1 : ie.hasPointers = true) (h2 : ie.bytes = 32) (n : Nat) (hn : 2 ≤ n) : Lib.swapperK n ie 25 = 9 := by
  have c : (n == 0) = false := by simp; omega
  have d : (n == 1) = false := by simp; omega
  simp [Lib.swapperK, h1, h2, c, d]
/-- The nodes as the sort leaves them. -/
def sortA (N : List Nd) : List Nd := (Sort.insertionSort ndLt N.toArray 0 N.length).toList
theorem insInner_size {α : Type} [Inhabited α] (lt : α → α → Bool) (a : Nat) : ∀ (j : Nat) (d : Array α), (insInner lt a j d).size = d.size
  | 0, d => rfl
  | j + 1, d => by
    unfold insInner
    split
    · rw [insInner_size lt a j]; simp [swp]
    · rfl
theorem insOuter_size {α : Type} [Inhabited α] (lt : α → α → Bool) (a b : Nat) : ∀ (m i : Nat) (d : Array α), b - i ≤ m → (insOuter lt a b i d).size = d.size
  | 0, i, d, h => by
    unfold insOuter
    rw [if_neg (by omega)]
  | m + 1, i, d, h => by
    unfold insOuter
    split
    · rw [insOuter_size lt a b m (i + 1) _ (by omega), insInner_size]
    · rfl
theorem insertionSort_size {α : Type} [Inhabited α] (lt : α → α → Bool) (a b : Nat) (d : Array α) : (Sort.insertionSort lt d a b).size = d.size := insOuter_size lt a b _ _ d (Nat.le_refl _)
theorem sortA_len (N : List Nd) : (sortA N).length = N.length := by unfold sortA; rw [Array.length_toList, insertionSort_size]; simp
theorem sliceStable19 (rb cap Bs : Nat) (N : List Nd) (h2 : 2 ≤ N.length) (h19 : N.length < 20) (w : World) (hs : w.cell? ⟨Bs, 0, none⟩ = some (.slice (some ⟨rb, 0, none⟩) N.length cap)) (hB1 : Bs < w.heap.size) (hB2 : Bs ≠ rb) (hrb : rb < w.heap.size)
    (hH : HoldsK ndE 2 w rb 0 N.toArray) :
    Calls Tryd.prog 65 #[.iface 110 (.slice (some ⟨rb, 0, none⟩) N.length cap), .func (.func 66) #[] #[.pointer (some ⟨Bs, 0, none⟩)]] w fun e w' =>
      e = .returned (.tuple #[]) ∧ ∃ n os, w' = grow (putRow id (Sort.ahead w n) rb 0 (flatK ndE 2 (sortA N).toArray)) os := by
  obtain ⟨i, hi, hd⟩ : ∃ i, Tryd.prog.info? 110 = some i ∧ i.desc = .slice 115 := by
    have := slFacts
    cases h : Tryd.prog.info? 110 with
    | none => rw [h] at this; cases this
    | some i => rw [h] at this; exact ⟨i, rfl, by injection this⟩
  obtain ⟨ie, hie, e1, e2, e3⟩ : ∃ ie, Tryd.prog.info? 115 = some ie ∧ ie.hasPointers = true ∧ ie.bytes = 32 ∧ ie.size = 2 := by
    have := ndFacts
    cases h : Tryd.prog.info? 115 with
    | none => rw [h] at this; cases this
    | some ie =>
      rw [h] at this
      have h4 : (ie.hasPointers, ie.bytes, ie.size) = (true, 32, 2) := by injection this
      exact ⟨ie, rfl, congrArg (·.1) h4, congrArg (·.2.1) h4, congrArg (·.2.2) h4⟩
  have hless : LessReadsK Tryd.prog 66 #[.pointer (some ⟨Bs, 0, none⟩)] ndE 2 ndLt rb 0 N.toArray.size w := by
    intro m os dk hsz i j hi hj
    have e : sortWorldK ndE 2 w rb 0 m dk os = putRowK ndE 2 (grow (Sort.ahead w m) os) rb 0 dk := by
      unfold sortWorldK; rw [putRowK_grow _ _ (Sort.ahead w m) _ rb 0 _ hrb]
    have hHg : HoldsK ndE 2 (grow (Sort.ahead w m) os) rb 0 N.toArray := holdsK_grow _ _ _ _ rb 0 _ hrb (holdsK_ahead _ _ _ _ _ _ _ hH)
    have hsN : N.toArray.size = N.length := by simp
    refine less_nd rb cap Bs N.length _ (fun t => dk[t]!.1) ?_ (fun t ht => ?_) i j (by omega) (by omega) (by omega)
    · rw [e, cell?_putRowK_other _ _ _ rb 0 dk _ (by exact hB2), cell?_grow _ _ _ (by exact hB1)]; exact hs
    · rw [e]
      have := ((holdsK_putRowK _ _ _ rb 0 N.toArray dk hHg hsz).cell (i := t) (c := 0) (by omega) (by omega)).1
      rw [Nat.zero_add, Nat.add_zero] at this
      exact this
  have hK := nd_swapper ie e1 e2 N.length h2
  refine Any.sort_SliceStable_of_stable laysGt8 110 115 i ie hi hd (by kernel_rfl) hie 25 (fun _ => by kernel_rfl) (some ⟨rb, 0, none⟩) N.length cap (by omega) 80 (by rw [hK]; kernel_rfl) (.func 66) #[] #[.pointer (some ⟨Bs, 0, none⟩)] w _ ?_
  have hB : sliceBound Tryd.prog 115 ie 25 (some ⟨rb, 0, none⟩) N.length cap = #[.slice (some ⟨rb, 0, none⟩) N.length cap, typeHandle Tryd.prog 115] := by
    unfold sliceBound; rw [if_neg (by rw [hK]; decide)]
  have hW : ∃ os0, stableWorld Tryd.prog laysGt8_ren 110 (some ⟨rb, 0, none⟩) N.length cap w = grow w os0 := by
    unfold stableWorld; rw [alloc_eq_grow, alloc_eq_grow, grow_grow]; exact ⟨_, rfl⟩
  obtain ⟨os0, hW⟩ := hW
  rw [hB, hW]
  have hsN : N.toArray.size = N.length := by simp
  have hp := stable19 ndE 2 (fun _ => rfl) ndLt 66 #[.pointer (some ⟨Bs, 0, none⟩)] 80 _ rb 0 N.toArray (grow w os0) (enters_of Tryd.func66 (by kernel_rfl) rfl) (hless.grow hrb os0)
    (swapSwapsK_of_literal false 80 (fun args W => run_callFunc_extern Tryd.func80 (by kernel_rfl) (by kernel_rfl) (by kernel_rfl) (e := Extern.ReflectliteSwapper.swap false) (by kernel_rfl) args W) 115 ie hie ndE 2 (fun _ => rfl) e3 (fun _ => by kernel_rfl)
      (fun x v hv => by simp [ndE, ndV] at hv; rcases hv with rfl | rfl <;> rfl) rb 0 N.toArray.size cap) (holdsK_grow ndE 2 w _ rb 0 _ hrb hH) (by rw [size_grow]; omega) (by omega)
  rw [hsN] at hp
  refine hp.mono ?_
  rintro e w' ⟨rfl, n, os, rfl⟩
  refine ⟨rfl, n, os0 ++ os, ?_⟩
  unfold sortWorldK
  rw [ahead_grow, putRowK_grow ndE 2 (Sort.ahead w n) _ rb 0 _ hrb, grow_grow]
  rfl
set_option maxRecDepth 100000 in
set_option maxHeartbeats 4000000 in
/-- ascending, at 2 to 19 nodes. -/
theorem asc_some (B rb cap n : Nat) (N : List Nd) (hn : Hid (N.length = n)) (h2 : 2 ≤ n) (h19 : n < 20) (w : World) (hB : B ≤ w.heap.size) (h : w.ownsRow B 115 2 (.slice (some ⟨rb, 0, none⟩) n cap) n (ndCells N)) :
    Calls Tryd.prog 61 #[.slice (some ⟨rb, 0, none⟩) n cap] w fun e w' => e = .returned (.slice (some ⟨rb, 0, none⟩) n cap) ∧ w'.ownsRow B 115 2 (.slice (some ⟨rb, 0, none⟩) n cap) n (ndCells (sortA N)) ∧ Below B w w' := by
  have hmf : ∀ (fn : Fn) (first cap : Array Value) (w : World), (Instr.makeFunc fn first cap).run Tryd.prog w = .ok (.func fn first cap) w := fun _ _ _ _ => rfl
  have hrb := own_lt h (b := rb) rfl
  have hge := own_ge h (b := rb) rfl
  have HX := hid (Has.new w 110 #[.slice (some ⟨rb, 0, none⟩) n cap])
  have HO := hid (h.alloc (.cells #[.slice (some ⟨rb, 0, none⟩) n cap] 110))
  have cc : (w.alloc (.cells #[.slice (some ⟨rb, 0, none⟩) n cap] 110)).cell? ⟨w.heap.size, 0, none⟩ = some (.slice (some ⟨rb, 0, none⟩) n cap) := HX.out.cell 0
  have HS : Hid (Calls Tryd.prog 65 #[.iface 110 (.slice (some ⟨rb, 0, none⟩) n cap), .func (.func 66) #[] #[.pointer (some ⟨w.heap.size, 0, none⟩)]] (w.alloc (.cells #[.slice (some ⟨rb, 0, none⟩) n cap] 110)) fun e w' =>
      e = .returned (.tuple #[]) ∧ ∃ m os, w' = grow (putRow id (Sort.ahead (w.alloc (.cells #[.slice (some ⟨rb, 0, none⟩) n cap] 110)) m) rb 0 (flatK ndE 2 (sortA N).toArray)) os) := by
    have hh := HO.out
    have e := hn.out
    subst e
    exact hid (sliceStable19 rb cap w.heap.size N h2 h19 _ cc (by simp) (by omega) (by simp; omega) (holds_nd hh))
  have HB := hid (Below.alloc (Below.refl B w) hB (.cells #[.slice (some ⟨rb, 0, none⟩) n cap] 110))
  clear h
  go_enter Tryd.func61, Tryd.ntmps61
  go_wp2_with fail
  refine HS.out.mono ?_
  rintro e w2 ⟨rfl, m, os, hw2⟩
  have hO2 : w2.ownsRow B 115 2 (.slice (some ⟨rb, 0, none⟩) n cap) n (ndCells (sortA N)) := by
    rw [hw2, ← flat_nd]
    exact own_putRow HO.out _ (by rw [size_flatK]; simp [sortA_len, hn.out])
  have hB2 : Below B w w2 := by
    rw [hw2]
    exact Below.trans HB.out (below_putRow hge (by simp; omega))
  have c2 : w2.cell? ⟨w.heap.size, 0, none⟩ = some (.slice (some ⟨rb, 0, none⟩) n cap) := by
    rw [hw2]
    refine (World.cell?_of_block (grow_other (w := w.alloc (.cells #[.slice (some ⟨rb, 0, none⟩) n cap] 110)) (g := rb) (n := m) (os := os) (F := flatK ndE 2 (sortA N).toArray) (i := w.heap.size) (by simp) (by omega))).trans cc
  have HO2 := hid hO2
  have HB2 := hid hB2
  clear hw2 hO2 hB2
  go_wp2
  go_ret
  exact ⟨rfl, HO2.out, HB2.out⟩
end Go.Proofs.YtacgnadhpgkcmaaDoor
