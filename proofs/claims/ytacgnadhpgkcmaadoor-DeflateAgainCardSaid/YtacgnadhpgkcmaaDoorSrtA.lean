import Derived.Test.YtacgnadhpgkcmaaDoorSortL
import Derived.Test.YtacgnadhpgkcmaaDoorHufX
import Derived.Shelf.SlSortFuncK.SWK
import Derived.Test.YtacgnadhpgkcmaaDoorPkgZ
import Derived.IntWalk
/- Plain: swapRange and rotate on lists. No program in it. -/
namespace Go.Proofs.YtacgnadhpgkcmaaDoor
open Go.Sort
set_option linter.unusedVariables false
variable {α : Type} [Inhabited α]
theorem swp_far (P Q R : List α) (x y : α) : swp (P ++ x :: (Q ++ y :: R)).toArray P.length (P.length + 1 + Q.length) = (P ++ y :: (Q ++ x :: R)).toArray := by
  have e : P ++ x :: (Q ++ y :: R) = (P ++ x :: Q) ++ y :: R := by simp
  have h1 : (P ++ x :: (Q ++ y :: R)).toArray[P.length + 1 + Q.length]! = y := by
    rw [e]
    have : P.length + 1 + Q.length = (P ++ x :: Q).length := by simp; omega
    rw [this, get_mid]
  unfold swp
  rw [h1, get_mid]
  have e2 : (P ++ x :: (Q ++ y :: R)).toArray.setIfInBounds P.length y = (P ++ y :: (Q ++ y :: R)).toArray := by simp
  rw [e2]
  have e3 : P ++ y :: (Q ++ y :: R) = (P ++ y :: Q) ++ y :: R := by simp
  have e4 : P.length + 1 + Q.length = (P ++ y :: Q).length := by simp; omega
  rw [e3, e4]
  simp
/-- swapRange: n places from a on against n places from b on. -/
def swapR (d : Array α) (a b : Nat) : Nat → Array α
  | 0 => d
  | n + 1 => swp (swapR d a b n) (a + n) (b + n)
theorem swapR_list : ∀ (n : Nat) (X P Y Q Z : List α) (a b : Nat), X.length = a → P.length = n → Q.length = n → a + n + Y.length = b → swapR (X ++ P ++ Y ++ Q ++ Z).toArray a b n = (X ++ Q ++ Y ++ P ++ Z).toArray
  | 0, X, P, Y, Q, Z, a, b, _, hP, hQ, _ => by
    obtain rfl := List.length_eq_zero_iff.1 hP
    obtain rfl := List.length_eq_zero_iff.1 hQ
    rfl
  | n + 1, X, P, Y, Q, Z, a, b, hX, hP, hQ, hb => by
    obtain ⟨P', p, rfl⟩ : ∃ C p, P = C ++ [p] := by
      have hne : P ≠ [] := fun e => by rw [e] at hP; simp at hP
      exact ⟨P.dropLast, P.getLast hne, (List.dropLast_concat_getLast hne).symm⟩
    obtain ⟨Q', q, rfl⟩ : ∃ C p, Q = C ++ [p] := by
      have hne : Q ≠ [] := fun e => by rw [e] at hQ; simp at hQ
      exact ⟨Q.dropLast, Q.getLast hne, (List.dropLast_concat_getLast hne).symm⟩
    have hP' : P'.length = n := by simpa using hP
    have hQ' : Q'.length = n := by simpa using hQ
    have ih := swapR_list n X P' (p :: Y) Q' (q :: Z) a b hX hP' hQ' (by simp; omega)
    have e1 : X ++ (P' ++ [p]) ++ Y ++ (Q' ++ [q]) ++ Z = X ++ P' ++ (p :: Y) ++ Q' ++ (q :: Z) := by simp
    rw [swapR, e1, ih]
    have h := swp_far (X ++ Q') (Y ++ P') Z p q
    have l1 : (X ++ Q').length = a + n := by simp; omega
    have l2 : (X ++ Q').length + 1 + (Y ++ P').length = b + n := by simp; omega
    rw [l2, l1] at h
    have e2 : X ++ Q' ++ (p :: Y) ++ P' ++ (q :: Z) = X ++ Q' ++ p :: (Y ++ P' ++ q :: Z) := by simp
    have e3 : X ++ (Q' ++ [q]) ++ Y ++ (P' ++ [p]) ++ Z = X ++ Q' ++ q :: (Y ++ P' ++ p :: Z) := by simp
    rw [e2, e3]
    exact h
/-- The state of rotate's loop: U and V still stand to be exchanged; T is what comes of it. -/
structure RotAt (d : Array α) (T : List α) (m i j : Nat) : Prop where
  at_ : ∃ X U V Z : List α, d = (X ++ U ++ V ++ Z).toArray ∧ X ++ V ++ U ++ Z = T ∧ X.length + i = m ∧ U.length = i ∧ V.length = j
theorem rot_more {d : Array α} {T : List α} {m i j : Nat} (h : RotAt d T m i j) (hij : j < i) : RotAt (swapR d (m - i) m j) T m (i - j) j := by
  obtain ⟨X, U, V, Z, rfl, hT, hX, hU, hV⟩ := h.at_
  have hs := swapR_list j X (U.take j) (U.drop j) V Z (m - i) m (by omega) (by simp; omega) hV (by simp; omega)
  have e : X ++ U.take j ++ U.drop j ++ V ++ Z = X ++ U ++ V ++ Z := by rw [List.append_assoc X, List.take_append_drop]
  rw [e] at hs
  refine ⟨X ++ V, U.drop j, U.take j, Z, hs, ?_, by simp; omega, by simp; omega, by simp; omega⟩
  rw [← hT]
  conv => rhs; rw [← List.take_append_drop j U]
  simp
theorem rot_less {d : Array α} {T : List α} {m i j : Nat} (h : RotAt d T m i j) (hij : i < j) : RotAt (swapR d (m - i) (m + j - i) i) T m i (j - i) := by
  obtain ⟨X, U, V, Z, rfl, hT, hX, hU, hV⟩ := h.at_
  have hs := swapR_list i X U (V.take (j - i)) (V.drop (j - i)) Z (m - i) (m + j - i) (by omega) hU (by simp; omega) (by simp; omega)
  have e : X ++ U ++ V.take (j - i) ++ V.drop (j - i) ++ Z = X ++ U ++ V ++ Z := by rw [List.append_assoc (X ++ U), List.take_append_drop]
  rw [e] at hs
  refine ⟨X, V.drop (j - i), V.take (j - i), U ++ Z, by rw [hs]; simp, ?_, hX, by simp; omega, by simp; omega⟩
  rw [← hT]
  conv => rhs; rw [← List.take_append_drop (j - i) V]
  simp
theorem rot_same {d : Array α} {T : List α} {m i : Nat} (h : RotAt d T m i i) : swapR d (m - i) m i = T.toArray := by
  obtain ⟨X, U, V, Z, rfl, hT, hX, hU, hV⟩ := h.at_
  have hs := swapR_list i X U [] V Z (m - i) m (by omega) hU hV (by simp; omega)
  rw [List.append_nil] at hs
  rw [hs, List.append_nil, hT]
end Go.Proofs.YtacgnadhpgkcmaaDoor
/- sort.swapRange_func at elements of k cells (contract of the function). -/
namespace Go.Proofs.YtacgnadhpgkcmaaDoor
open Go.RowKit Go.Shelf Go.Lib Go.Sort
set_option linter.unusedVariables false
variable {α : Type} [Inhabited α]
theorem swapR_size (d : Array α) (a b : Nat) : ∀ n, (swapR d a b n).size = d.size
  | 0 => rfl
  | n + 1 => by rw [swapR, size_swp, swapR_size d a b n]
theorem drew_none (w : World) : w.drewN 0 = w := rfl
set_option maxHeartbeats 1600000 in
set_option maxRecDepth 100000 in
theorem swapRange_ok (enc : α → List Value) (k : Nat) (hk : ∀ x, (enc x).length = k) (g : Nat) (lb : Array Value) (sf : Nat) (sb : Array Value) (blk off : Nat) (d : Array α) (a b cnt : Nat) (W : World)
    (hswap : SwapSwapsK Tryd.prog sf sb enc k blk off d.size) (hH : HoldsK enc k W blk off d) (hblk : blk < W.heap.size) (ha : a + cnt ≤ d.size) (hb : b + cnt ≤ d.size) (hsz : d.size < 4611686018427387904) :
    Calls Tryd.prog 84 #[.agg #[.func (.func g) #[] lb, .func (.func sf) #[] sb], .int .i64 a, .int .i64 b, .int .i64 cnt] W fun e w' => e = .returned (.tuple #[]) ∧ ∃ n os, w' = sortWorldK enc k W blk off n (swapR d a b cnt) os := by
  have hH1 : HoldsK enc k (W.alloc (.cells #[.func (.func g) #[] lb, .func (.func sf) #[] sb] 132)) blk off d := by rw [alloc_eq_grow]; exact holdsK_grow enc k W _ blk off d hblk hH
  go_enter Tryd.func84, Tryd.ntmps84
  go_wp2
  go_loopw [8] (fun vi wr => ∃ i n : Nat, vi = .int .i64 i ∧ i ≤ cnt ∧ wr = putRowK enc k (Sort.ahead (W.alloc (.cells #[.func (.func g) #[] lb, .func (.func sf) #[] sb] 132)) n) blk off (swapR d a b i)) (fun vi _ => cnt - (intOf vi).toNat)
  case atStart => exact ⟨0, 0, rfl, Nat.zero_le _, (putRowK_self _ _ _ _ _ _ hH1).symm⟩
  case round =>
    obtain ⟨i, n, rfl, hi, hwr⟩ := hrel
    rename World => wr
    have c1 : wr.cell? ⟨W.heap.size, 1, none⟩ = some (.func (.func sf) #[] sb) := by
      rw [hwr, cell?_putRowK_other enc k _ blk off _ _ (by show W.heap.size ≠ blk; omega)]
      show (W.alloc (.cells #[.func (.func g) #[] lb, .func (.func sf) #[] sb] 132)).cell? ⟨W.heap.size, 1, none⟩ = _
      simp
    have hHw : HoldsK enc k wr blk off (swapR d a b i) := by
      rw [hwr]; exact holdsK_putRowK enc k _ blk off d _ (holdsK_ahead _ _ _ _ _ _ _ hH1) (swapR_size d a b i)
    have HW := hid hwr
    clear hwr
    by_cases hlt : i < cnt
    · have hlti : (i : Int) < cnt := by omega
      have hs := hswap wr (swapR d a b i) hHw (swapR_size d a b i) (a + i) (b + i) (by omega) (by omega)
      rw [show ((a + i : Nat) : Int) = (a : Int) + i by omega, show ((b + i : Nat) : Int) = (b : Int) + i by omega] at hs
      go_wp2
      go_roundw
      case rel =>
        refine ⟨i + 1, n, by go_num, hlt, ?_⟩
        have h1 := swap_worldK enc k hk (W.alloc (.cells #[.func (.func g) #[] lb, .func (.func sf) #[] sb] 132)) n 0 blk off (swapR d a b i) (a + i) (b + i) (by rw [swapR_size]; omega) (by rw [swapR_size]; omega)
        rw [HW.out]
        exact h1
      case measure => simp [intOf]; omega
    · obtain rfl : i = cnt := by omega
      have hnlt : ¬ (i : Int) < i := by omega
      go_wp2
      go_end0
      refine ⟨rfl, n, #[.cells #[.func (.func g) #[] lb, .func (.func sf) #[] sb] 132], ?_⟩
      rw [HW.out]
      unfold sortWorldK
      rw [alloc_eq_grow, ahead_grow, putRowK_grow enc k (Sort.ahead W n) _ blk off _ hblk]
end Go.Proofs.YtacgnadhpgkcmaaDoor
/- sort.rotate_func at elements of k cells (contract of the function). -/
namespace Go.Proofs.YtacgnadhpgkcmaaDoor
open Go.RowKit Go.Shelf Go.Lib Go.Sort
set_option linter.unusedVariables false
variable {α : Type} [Inhabited α]
omit [Inhabited α] in
theorem rot_bounds {d : Array α} {T : List α} {m i j : Nat} (h : RotAt d T m i j) : i ≤ m ∧ m + j ≤ d.size := by
  obtain ⟨X, U, V, Z, rfl, _, h1, h2, h3⟩ := h.at_
  refine ⟨by omega, ?_⟩
  simp; omega
theorem swk_has {enc : α → List Value} {k : Nat} {w0 W : World} {blk off : Nat} {dk : Array α} (h : SWK enc k w0 blk off dk W) {g : Nat} {t : TypeId} {cs : Array Value} (hg : Has w0 g t cs) (hne : g ≠ blk) : Has W g t cs := by
  obtain ⟨n, os, rfl⟩ := h
  have hl := hg.lt
  unfold Has at hg ⊢
  rw [← hg]
  show ((w0.heap.modify blk _) ++ os)[g]? = _
  rw [Array.getElem?_append_left (by simpa using hl), Array.getElem?_modify, if_neg (fun e => hne e.symm)]
set_option maxHeartbeats 1600000 in
set_option maxRecDepth 100000 in
theorem rotate_ok (enc : α → List Value) (k : Nat) (hk : ∀ x, (enc x).length = k) (g : Nat) (lb : Array Value) (sf : Nat) (sb : Array Value) (blk off : Nat) (d : Array α) (T : List α) (a m b : Nat) (W : World)
    (hswap : SwapSwapsK Tryd.prog sf sb enc k blk off d.size) (hH : HoldsK enc k W blk off d) (hblk : blk < W.heap.size) (ham : a < m) (hmb : m < b) (hR : RotAt d T m (m - a) (b - m)) (hsz : d.size < 4611686018427387904) :
    Calls Tryd.prog 83 #[.agg #[.func (.func g) #[] lb, .func (.func sf) #[] sb], .int .i64 a, .int .i64 m, .int .i64 b] W fun e w' => e = .returned (.tuple #[]) ∧ SWK enc k W blk off T.toArray w' := by
  have HLS := hid (Has.new W 132 #[.func (.func g) #[] lb, .func (.func sf) #[] sb])
  have hbd := rot_bounds hR
  have HH := hid hH
  have HR := hid hR
  clear hH hR
  obtain ⟨W1, hW1⟩ : ∃ w, W.alloc (.cells #[.func (.func g) #[] lb, .func (.func sf) #[] sb] 132) = w := ⟨_, rfl⟩
  have hge : W.heap.size < W1.heap.size := by rw [← hW1]; simp
  have hH1 : HoldsK enc k W1 blk off d := by rw [← hW1, alloc_eq_grow]; exact holdsK_grow enc k W _ blk off d hblk HH.out
  have HH1 := hid hH1
  clear hH1
  go_enter Tryd.func83, Tryd.ntmps83
  go_wp2
  rw [hW1] at HLS
  have HW1 := hid hW1
  clear hW1
  go_loopw [8, 9] (fun vi vj wr => ∃ (i j : Nat) (dk : Array α), vi = .int .i64 i ∧ vj = .int .i64 j ∧ 0 < i ∧ 0 < j ∧ dk.size = d.size ∧ RotAt dk T m i j ∧ SWK enc k W1 blk off dk wr) (fun vi vj _ => (intOf vi).toNat + (intOf vj).toNat)
  case atStart => exact ⟨m - a, b - m, d, by go_num, by go_num, by omega, by omega, rfl, HR.out, SWK.start HH1.out⟩
  case round =>
    obtain ⟨i, j, dk, rfl, rfl, hi0, hj0, hds, hrot, hsw⟩ := hrel
    rename World => wr
    have hls := swk_has hsw HLS.out (by omega)
    have c0 := hls.cell 0
    have c1 := hls.cell 1
    have hb2 := rot_bounds hrot
    have HROT := hid hrot
    have HSW := hid hsw
    have hblk1 : blk < W1.heap.size := by omega
    have hSR := fun (x y n : Nat) (h1 : x + n ≤ dk.size) (h2 : y + n ≤ dk.size) => swapRange_ok enc k hk g lb sf sb blk off dk x y n wr (hds ▸ hswap) (HSW.out.holds hblk1 HH1.out hds) (HSW.out.lt hblk1) h1 h2 (by omega)
    have HSR := hid hSR
    clear hls hrot hsw hSR
    by_cases hne : i = j
    · subst hne
      have hc := HSR.out (m - i) m i (by omega) (by omega)
      rw [show ((m - i : Nat) : Int) = (m : Int) - i by omega, rot_same HROT.out] at hc
      have HC := hid hc
      clear hc HSR
      have t0 : ((i : Int) != (i : Int)) = false := by simp
      go_wp2_with fail
      refine HC.out.mono ?_
      rintro e w2 ⟨rfl, n2, os2, rfl⟩
      have hs2 : SWK enc k W1 blk off T.toArray (sortWorldK enc k wr blk off n2 T.toArray os2) := HSW.out.on hblk1 n2 T.toArray os2 (by rw [← rot_same HROT.out, swapR_size])
      go_wp2
      go_end0
      refine ⟨rfl, ?_⟩
      obtain ⟨n3, os3, e3⟩ := hs2
      rw [e3, ← HW1.out]
      refine ⟨n3, #[.cells #[.func (.func g) #[] lb, .func (.func sf) #[] sb] 132] ++ os3, ?_⟩
      unfold sortWorldK
      rw [alloc_eq_grow, ahead_grow, putRowK_grow enc k (Sort.ahead W n3) _ blk off _ hblk, grow_grow]
    · have t0 : ((i : Int) != (j : Int)) = true := by simp; omega
      by_cases hij : j < i
      · have t1 : (j : Int) < i := by omega
        have hc := HSR.out (m - i) m j (by omega) (by omega)
        rw [show ((m - i : Nat) : Int) = (m : Int) - i by omega] at hc
        have HC := hid hc
        clear hc HSR
        go_wp2_with fail
        refine HC.out.mono ?_
        rintro e w2 ⟨rfl, n2, os2, rfl⟩
        go_wp2
        go_roundw
        case rel => exact ⟨i - j, j, swapR dk (m - i) m j, by go_num, rfl, by omega, hj0, by rw [swapR_size]; exact hds, rot_more HROT.out hij, HSW.out.on hblk1 n2 _ os2 (swapR_size ..)⟩
        case measure => simp [intOf]; omega
      · have t1 : ¬ (j : Int) < i := by omega
        have hc := HSR.out (m - i) (m + j - i) i (by omega) (by omega)
        rw [show ((m - i : Nat) : Int) = (m : Int) - i by omega, show ((m + j - i : Nat) : Int) = (m : Int) + j - i by omega] at hc
        have HC := hid hc
        clear hc HSR
        go_wp2_with fail
        refine HC.out.mono ?_
        rintro e w2 ⟨rfl, n2, os2, rfl⟩
        go_wp2
        go_roundw
        case rel => exact ⟨i, j - i, swapR dk (m - i) (m + j - i) i, rfl, by go_num, hi0, by omega, by rw [swapR_size]; exact hds, rot_less HROT.out (by omega), HSW.out.on hblk1 n2 _ os2 (swapR_size ..)⟩
        case measure => simp [intOf]; omega
end Go.Proofs.YtacgnadhpgkcmaaDoor
/- Plain: merging one element; moving one element by swaps of neighbours. No program in it. -/
namespace Go.Proofs.YtacgnadhpgkcmaaDoor
open Go.Sort
set_option linter.unusedVariables false
theorem merge_left1 {α : Type} (lt : α → α → Bool) (x : α) (v1 v2 : List α) (h1 : ∀ y ∈ v1, lt y x = true) (h2 : ∀ y ∈ v2, lt y x = false) : mergeL lt [x] (v1 ++ v2) = v1 ++ x :: v2 := by
  have e1 := merge_split lt [x] v2 [] v1 (fun y hy z hz => by rw [List.mem_singleton.1 hz]; exact h1 y hy) (fun z hz => by simp at hz)
  have e2 := merge_split lt [] v2 [x] [] (fun y hy => by simp at hy) (fun z hz y hy => by rw [List.mem_singleton.1 hz]; exact h2 y hy)
  rw [mergeL_nil] at e1
  rw [mergeL_nil, mergeL_none] at e2
  exact e1.trans (congrArg (v1 ++ ·) e2)
theorem merge_right1 {α : Type} (lt : α → α → Bool) (y : α) (u1 u2 : List α) (h1 : ∀ x ∈ u1, lt y x = false) (h2 : ∀ x ∈ u2, lt y x = true) : mergeL lt (u1 ++ u2) [y] = u1 ++ y :: u2 := by
  have e1 := merge_split lt u2 [y] u1 [] (fun z hz => by simp at hz) (fun x hx z hz => by rw [List.mem_singleton.1 hz]; exact h1 x hx)
  have e2 := merge_split lt u2 [] [] [y] (fun z hz x hx => by rw [List.mem_singleton.1 hz]; exact h2 x hx) (fun x hx => by simp at hx)
  rw [mergeL_none] at e1
  rw [mergeL_nil, mergeL_none] at e2
  exact e1.trans (congrArg (u1 ++ ·) e2)
section
variable {α : Type} [Inhabited α]
theorem swp_next (P R : List α) (x y : α) : swp (P ++ x :: y :: R).toArray P.length (P.length + 1) = (P ++ y :: x :: R).toArray := by
  have := swp_far P [] R x y
  simpa using this
theorem swp_last (P R : List α) (x y : α) : swp (P ++ x :: y :: R).toArray (P.length + 1) P.length = (P ++ y :: x :: R).toArray := swp_mid P R y x
/-- An element on its way to the right: Q is passed, S is still to be passed. -/
structure GoesR (d : Array α) (T : List α) (k e : Nat) : Prop where
  at_ : ∃ (P S R : List α) (x : α), d = (P ++ x :: (S ++ R)).toArray ∧ P ++ S ++ x :: R = T ∧ P.length = k ∧ k + S.length = e
theorem goesR_step {d : Array α} {T : List α} {k e : Nat} (h : GoesR d T k e) (hk : k < e) : GoesR (swp d k (k + 1)) T (k + 1) e ∧ k + 1 < d.size := by
  obtain ⟨P, S, R, x, rfl, hT, hP, hS⟩ := h.at_
  cases S with
  | nil => simp at hS; omega
  | cons y S =>
    refine ⟨⟨P ++ [y], S, R, x, ?_, by rw [← hT]; simp, by simp; omega, by simp at hS ⊢; omega⟩, by simp; omega⟩
    have := swp_next P (S ++ R) x y
    rw [hP] at this
    rw [List.cons_append, this]
    simp
omit [Inhabited α] in
theorem goesR_end {d : Array α} {T : List α} {e : Nat} (h : GoesR d T e e) : d = T.toArray := by
  obtain ⟨P, S, R, x, rfl, hT, hP, hS⟩ := h.at_
  obtain rfl : S = [] := List.length_eq_zero_iff.1 (by omega)
  rw [← hT]; simp
/-- An element on its way to the left. -/
structure GoesL (d : Array α) (T : List α) (k e : Nat) : Prop where
  at_ : ∃ (P S R : List α) (x : α), d = (P ++ S ++ x :: R).toArray ∧ P ++ x :: (S ++ R) = T ∧ (P ++ S).length = k ∧ P.length = e
theorem goesL_step {d : Array α} {T : List α} {k e : Nat} (h : GoesL d T k e) (hk : e < k) : GoesL (swp d k (k - 1)) T (k - 1) e ∧ k < d.size := by
  obtain ⟨P, S, R, x, rfl, hT, hP, hS⟩ := h.at_
  have hne : S ≠ [] := fun e => by subst e; simp at hP; omega
  obtain ⟨S', y, rfl⟩ : ∃ C p, S = C ++ [p] := ⟨S.dropLast, S.getLast hne, (List.dropLast_concat_getLast hne).symm⟩
  have hlen : (P ++ S').length + 1 = k := by simp at hP ⊢; omega
  refine ⟨⟨P, S', y :: R, x, ?_, by rw [← hT]; simp, by omega, hS⟩, by simp at hP ⊢; omega⟩
  have := swp_last (P ++ S') R y x
  rw [hlen, show (P ++ S').length = k - 1 by omega] at this
  have e1 : P ++ (S' ++ [y]) ++ x :: R = P ++ S' ++ y :: x :: R := by simp
  rw [e1, this]
omit [Inhabited α] in
theorem goesL_end {d : Array α} {T : List α} {e : Nat} (h : GoesL d T e e) : d = T.toArray := by
  obtain ⟨P, S, R, x, rfl, hT, hP, hS⟩ := h.at_
  obtain rfl : S = [] := List.length_eq_zero_iff.1 (by simp at hP; omega)
  rw [← hT]; simp
end
end Go.Proofs.YtacgnadhpgkcmaaDoor
/- sort.symMerge_func where the left part is one element (contract of the function). -/
namespace Go.Proofs.YtacgnadhpgkcmaaDoor
open Go.RowKit Go.Shelf Go.Lib Go.Sort
set_option linter.unusedVariables false
variable {α : Type} [Inhabited α]
theorem swk_back {enc : α → List Value} {k : Nat} {W W1 w : World} {o : Obj} {blk off : Nat} {T : Array α} (e : W.alloc o = W1) (hblk : blk < W.heap.size) (h : SWK enc k W1 blk off T w) : SWK enc k W blk off T w := by
  subst e
  obtain ⟨n3, os3, rfl⟩ := h
  refine ⟨n3, #[o] ++ os3, ?_⟩
  unfold sortWorldK
  rw [alloc_eq_grow, ahead_grow, putRowK_grow enc k (Sort.ahead W n3) _ blk off _ hblk, grow_grow]
set_option maxHeartbeats 1600000 in
set_option maxRecDepth 100000 in
theorem symL_ok (enc : α → List Value) (k : Nat) (hk : ∀ x, (enc x).length = k) (lt : α → α → Bool) (g : Nat) (lb : Array Value) (sf : Nat) (sb : Array Value) (blk off : Nat) (d : Array α) (X v Z : List α) (x : α) (a m b : Nat) (hm : Hid (m = a + 1)) (W : World)
    (eg : ∀ args w, (callFunc g args).run Tryd.prog w = .ok (.enter g args) w) (hless : LessReadsK Tryd.prog g lb enc k lt blk off d.size W)
    (hswap : SwapSwapsK Tryd.prog sf sb enc k blk off d.size) (hH : HoldsK enc k W blk off d) (hblk : blk < W.heap.size) (hd : d = (X ++ x :: (v ++ Z)).toArray) (hX : X.length = a) (hv : m + v.length = b)
    (hmono : ∀ i j, i ≤ j → j < v.length → lt v[j]! x = true → lt v[i]! x = true) (hsz : d.size < 4611686018427387904) :
    Calls Tryd.prog 82 #[.agg #[.func (.func g) #[] lb, .func (.func sf) #[] sb], .int .i64 a, .int .i64 m, .int .i64 b] W fun e w' => e = .returned (.tuple #[]) ∧ SWK enc k W blk off (X ++ mergeL lt [x] v ++ Z).toArray w' := by
  have ham : a < m := by have := hm.out; omega
  have hw : IntKind.i64.wrap ((m : Int) - (a : Int)) = 1 := by have := hm.out; rw [IntWalk.i64_in _ (by omega)]; omega
  have HLS := hid (Has.new W 132 #[.func (.func g) #[] lb, .func (.func sf) #[] sb])
  have HH := hid hH
  have HMO := hid hmono
  have hsd : b ≤ d.size := by have := hm.out; rw [hd]; simp; omega
  have hget : ∀ h, m ≤ h → h < b → d[h]! = v[h - m]! := fun h h1 h2 => by
    have hm1 := hm.out
    have hq : (X ++ x :: (v ++ Z))[h]? = v[h - m]? := by
      rw [List.getElem?_append_right (by omega), show h - X.length = (h - m) + 1 by omega, List.getElem?_cons_succ, List.getElem?_append_left (by omega)]
    rw [hd]
    simp only [getElem!_def, List.getElem?_toArray, hq]
  have hgeta : d[a]! = x := by rw [hd, ← hX]; exact get_mid X (v ++ Z) x
  have HG := hid hget
  have HGA := hid hgeta
  have HD := hid hd
  clear hH hmono hget hgeta hd
  obtain ⟨W1, hW1⟩ : ∃ w, W.alloc (.cells #[.func (.func g) #[] lb, .func (.func sf) #[] sb] 132) = w := ⟨_, rfl⟩
  have hge : W.heap.size < W1.heap.size := by rw [← hW1]; simp
  have HH1 := hid (show HoldsK enc k W1 blk off d by rw [← hW1, alloc_eq_grow]; exact holdsK_grow enc k W _ blk off d hblk HH.out)
  have HL1 := hid (show LessReadsK Tryd.prog g lb enc k lt blk off d.size W1 by rw [← hW1, alloc_eq_grow]; exact hless.grow hblk _)
  have HSP := hid hswap
  clear hless hswap
  have hbk : blk < W1.heap.size := by omega
  go_enter Tryd.func82, Tryd.ntmps82
  go_wp2
  rw [hW1] at HLS
  have HW1 := hid hW1
  clear hW1
  go_loopw [8, 9] (fun vi vj wr => ∃ (i j : Nat), vi = .int .i64 i ∧ vj = .int .i64 j ∧ m ≤ i ∧ i ≤ j ∧ j ≤ b ∧ (∀ h, m ≤ h → h < i → lt d[h]! d[a]! = true) ∧ (∀ h, j ≤ h → h < b → lt d[h]! d[a]! = false) ∧ SWK enc k W1 blk off d wr) (fun vi vj _ => (intOf vj).toNat - (intOf vi).toNat)
  case atStart => exact ⟨m, b, rfl, rfl, Nat.le_refl _, by omega, Nat.le_refl _, fun h h1 h2 => by omega, fun h h1 h2 => by omega, SWK.start HH1.out⟩
  case round =>
    obtain ⟨i, j, rfl, rfl, hai, hij, hjb, h1, h2, hsw⟩ := hrel
    rename World => wr
    have hls := swk_has hsw HLS.out (by omega)
    have c0 := hls.cell 0
    have c1 := hls.cell 1
    have H1 := hid h1
    have H2 := hid h2
    have HSW := hid hsw
    clear hls h1 h2 hsw
    by_cases hlt : i < j
    · have hlti : (i : Int) < j := by omega
      obtain ⟨c, hc⟩ : ∃ c, (i + j) / 2 = c := ⟨_, rfl⟩
      have hc2 : ((i : Int) + j) / 2 = c := by omega
      have hic : i ≤ c := by omega
      have hcj : c < j := by omega
      have hl := HSW.out.less HL1.out rfl c a (by omega) (by omega)
      clear hc
      cases hlv : lt d[c]! d[a]! with
      | true =>
        rw [hlv] at hl
        have HLV := hid hlv
        clear hlv
        go_wp2_with (go_at_fn g; refine hl.mono ?_; rintro e w' ⟨rfl, q, rfl⟩)
        go_roundw
        case rel =>
          refine ⟨c + 1, j, by go_num, rfl, by omega, by omega, hjb, fun h e1 e2 => ?_, H2.out, HSW.out.drewN q⟩
          rw [HG.out h e1 (by omega), HGA.out]
          refine HMO.out (h - m) (c - m) (by omega) (by omega) ?_
          rw [← HG.out c (by omega) (by omega), ← HGA.out]
          exact HLV.out
        case measure => simp [intOf] <;> omega
      | false =>
        rw [hlv] at hl
        have HLV := hid hlv
        clear hlv
        go_wp2_with (go_at_fn g; refine hl.mono ?_; rintro e w' ⟨rfl, q, rfl⟩)
        go_roundw
        case rel =>
          refine ⟨i, c, rfl, rfl, hai, hic, by omega, H1.out, fun h e1 e2 => ?_, HSW.out.drewN q⟩
          cases hx : lt d[h]! d[a]! with
          | false => rfl
          | true =>
            exfalso
            rw [HG.out h (by omega) e2, HGA.out] at hx
            have := HMO.out (c - m) (h - m) (by omega) (by omega) hx
            rw [← HG.out c (by omega) (by omega), ← HGA.out] at this
            rw [HLV.out] at this
            cases this
        case measure => simp [intOf] <;> omega
    · obtain rfl : i = j := by omega
      have hnlt : ¬ (i : Int) < i := by omega
      have hT : X ++ mergeL lt [x] v ++ Z = X ++ v.take (i - m) ++ x :: (v.drop (i - m) ++ Z) := by
        have hm := merge_left1 lt x (v.take (i - m)) (v.drop (i - m)) (fun y hy => by
          obtain ⟨n, hn, rfl⟩ := List.getElem_of_mem hy
          rw [List.length_take] at hn
          have := H1.out (n + m) (by omega) (by omega)
          rw [HG.out _ (by omega) (by omega), HGA.out, Nat.add_sub_cancel, getElem!_pos v n (by omega)] at this
          rw [List.getElem_take]
          exact this) (fun y hy => by
          obtain ⟨n, hn, rfl⟩ := List.getElem_of_mem hy
          rw [List.length_drop] at hn
          have := H2.out (i + n) (by omega) (by omega)
          rw [HG.out _ (by omega) (by omega), HGA.out, show i + n - m = i - m + n by omega, getElem!_pos v _ (by omega)] at this
          rw [List.getElem_drop]
          exact this)
        rw [List.take_append_drop] at hm
        rw [hm]
        simp
      have hgo : GoesR d (X ++ mergeL lt [x] v ++ Z) a (i - 1) := by
        refine ⟨X, v.take (i - m), v.drop (i - m) ++ Z, x, ?_, hT.symm, hX, by have := hm.out; rw [List.length_take]; omega⟩
        rw [HD.out, ← List.append_assoc, List.take_append_drop]
      obtain ⟨T, hTe⟩ : ∃ T, X ++ mergeL lt [x] v ++ Z = T := ⟨_, rfl⟩
      rw [hTe] at hgo
      have HTE := hid hTe
      clear hTe
      have HGO := hid hgo
      clear hgo hT
      go_wp2_with fail
      go_loopw [11] (fun vk wq => ∃ (n : Nat) (dk : Array α), vk = .int .i64 n ∧ a ≤ n ∧ n ≤ i - 1 ∧ dk.size = d.size ∧ GoesR dk T n (i - 1) ∧ SWK enc k W1 blk off dk wq) (fun vk _ => i - (intOf vk).toNat)
      case atStart => exact ⟨a, d, rfl, Nat.le_refl _, by omega, rfl, HGO.out, HSW.out⟩
      case round =>
        obtain ⟨n, dk, rfl, han, hni, hds, hgk, hsw⟩ := hrel
        rename World => wq
        have hls := swk_has hsw HLS.out (by omega)
        have e0 := hls.cell 0
        have e1 := hls.cell 1
        have HGK := hid hgk
        have HSQ := hid hsw
        clear hls hgk hsw
        by_cases hn : n < i - 1
        · have hni2 : (n : Int) < (i : Int) - 1 := by omega
          have hs := HSP.out wq dk (HSQ.out.holds hbk HH1.out hds) hds n (n + 1) (by omega) (by have := (goesR_step HGK.out hn).2; omega)
          rw [show ((n + 1 : Nat) : Int) = (n : Int) + 1 by omega] at hs
          go_wp2
          go_roundw
          case rel => exact ⟨n + 1, swp dk n (n + 1), by go_num, by omega, by omega, by rw [size_swp]; exact hds, (goesR_step HGK.out hn).1, HSQ.out.swap hk hbk n (n + 1) (by omega) (by have := (goesR_step HGK.out hn).2; omega)⟩
          case measure => simp [intOf] <;> omega
        · have hni2 : ¬ (n : Int) < (i : Int) - 1 := by omega
          obtain rfl : n = i - 1 := by omega
          go_wp2
          go_returns
          refine ⟨rfl, swk_back HW1.out hblk ?_⟩
          rw [show X ++ (mergeL lt [x] v ++ Z) = T by rw [← List.append_assoc]; exact HTE.out, ← goesR_end HGK.out]
          exact HSQ.out
end Go.Proofs.YtacgnadhpgkcmaaDoor
/- sort.symMerge_func where the right part is one element and the left part is not (contract of the function). -/
namespace Go.Proofs.YtacgnadhpgkcmaaDoor
open Go.RowKit Go.Shelf Go.Lib Go.Sort
set_option linter.unusedVariables false
variable {α : Type} [Inhabited α]
set_option maxHeartbeats 1600000 in
set_option maxRecDepth 100000 in
theorem symRt_ok (enc : α → List Value) (k : Nat) (hk : ∀ x, (enc x).length = k) (lt : α → α → Bool) (g : Nat) (lb : Array Value) (sf : Nat) (sb : Array Value) (blk off : Nat) (d : Array α) (X u Z : List α) (y : α) (a m b : Nat) (hb : Hid (b = m + 1)) (hne : Hid (m ≠ a + 1)) (W : World)
    (eg : ∀ args w, (callFunc g args).run Tryd.prog w = .ok (.enter g args) w) (hless : LessReadsK Tryd.prog g lb enc k lt blk off d.size W)
    (hswap : SwapSwapsK Tryd.prog sf sb enc k blk off d.size) (hH : HoldsK enc k W blk off d) (hblk : blk < W.heap.size) (hd : d = (X ++ (u ++ y :: Z)).toArray) (hX : X.length = a) (hu : a + u.length = m) (ham : a < m)
    (hmono : ∀ i j, i ≤ j → j < u.length → lt y u[i]! = true → lt y u[j]! = true) (hsz : d.size < 4611686018427387904) :
    Calls Tryd.prog 82 #[.agg #[.func (.func g) #[] lb, .func (.func sf) #[] sb], .int .i64 a, .int .i64 m, .int .i64 b] W fun e w' => e = .returned (.tuple #[]) ∧ SWK enc k W blk off (X ++ mergeL lt u [y] ++ Z).toArray w' := by
  have hsd : b ≤ d.size := by have := hb.out; rw [hd]; simp; omega
  have hmd : m < d.size := by have := hb.out; omega
  obtain ⟨x0, hx0⟩ : ∃ x : Int, IntKind.i64.wrap ((m : Int) - (a : Int)) = x := ⟨_, rfl⟩
  have hw0 : (x0 == 1) = false := by have := hne.out; have := hb.out; rw [← hx0, IntWalk.i64_in _ (by omega)]; simp; omega
  have hw : IntKind.i64.wrap ((b : Int) - (m : Int)) = 1 := by have := hb.out; rw [IntWalk.i64_in _ (by omega)]; omega
  have HLS := hid (Has.new W 132 #[.func (.func g) #[] lb, .func (.func sf) #[] sb])
  have HH := hid hH
  have HMO := hid hmono
  have hget : ∀ h, a ≤ h → h < m → d[h]! = u[h - a]! := fun h h1 h2 => by
    have hq : (X ++ (u ++ y :: Z))[h]? = u[h - a]? := by
      rw [List.getElem?_append_right (by omega), hX, List.getElem?_append_left (by omega)]
    rw [hd]
    simp only [getElem!_def, List.getElem?_toArray, hq]
  have hgetm : d[m]! = y := by
    have := get_mid (X ++ u) Z y
    rw [List.append_assoc, List.length_append, hX, hu, ← hd] at this
    exact this
  have HG := hid hget
  have HGM := hid hgetm
  have HD := hid hd
  clear hH hmono hget hgetm hd
  obtain ⟨W1, hW1⟩ : ∃ w, W.alloc (.cells #[.func (.func g) #[] lb, .func (.func sf) #[] sb] 132) = w := ⟨_, rfl⟩
  have hge : W.heap.size < W1.heap.size := by rw [← hW1]; simp
  have HH1 := hid (show HoldsK enc k W1 blk off d by rw [← hW1, alloc_eq_grow]; exact holdsK_grow enc k W _ blk off d hblk HH.out)
  have HL1 := hid (show LessReadsK Tryd.prog g lb enc k lt blk off d.size W1 by rw [← hW1, alloc_eq_grow]; exact hless.grow hblk _)
  have HSP := hid hswap
  clear hless hswap
  have hbk : blk < W1.heap.size := by omega
  go_enter Tryd.func82, Tryd.ntmps82
  go_wp2
  rw [hW1] at HLS
  have HW1 := hid hW1
  clear hW1
  go_loopw [12, 13] (fun vi vj wr => ∃ (i j : Nat), vi = .int .i64 i ∧ vj = .int .i64 j ∧ a ≤ i ∧ i ≤ j ∧ j ≤ m ∧ (∀ h, a ≤ h → h < i → lt d[m]! d[h]! = false) ∧ (∀ h, j ≤ h → h < m → lt d[m]! d[h]! = true) ∧ SWK enc k W1 blk off d wr) (fun vi vj _ => (intOf vj).toNat - (intOf vi).toNat)
  case atStart => exact ⟨a, m, rfl, rfl, Nat.le_refl _, by omega, Nat.le_refl _, fun h h1 h2 => by omega, fun h h1 h2 => by omega, SWK.start HH1.out⟩
  case round =>
    obtain ⟨i, j, rfl, rfl, hai, hij, hjb, h1, h2, hsw⟩ := hrel
    rename World => wr
    have hls := swk_has hsw HLS.out (by omega)
    have c0 := hls.cell 0
    have c1 := hls.cell 1
    have H1 := hid h1
    have H2 := hid h2
    have HSW := hid hsw
    clear hls h1 h2 hsw
    by_cases hlt : i < j
    · have hlti : (i : Int) < j := by omega
      obtain ⟨c, hc⟩ : ∃ c, (i + j) / 2 = c := ⟨_, rfl⟩
      have hc2 : ((i : Int) + j) / 2 = c := by omega
      have hic : i ≤ c := by omega
      have hcj : c < j := by omega
      have hl := HSW.out.less HL1.out rfl m c (by omega) (by omega)
      clear hc
      cases hlv : lt d[m]! d[c]! with
      | false =>
        rw [hlv] at hl
        have HLV := hid hlv
        clear hlv
        go_wp2_with (go_at_fn g; refine hl.mono ?_; rintro e w' ⟨rfl, q, rfl⟩)
        go_roundw
        case rel =>
          refine ⟨c + 1, j, by go_num, rfl, by omega, by omega, hjb, fun h e1 e2 => ?_, H2.out, HSW.out.drewN q⟩
          cases hx : lt d[m]! d[h]! with
          | false => rfl
          | true =>
            exfalso
            rw [HG.out h e1 (by omega), HGM.out] at hx
            have := HMO.out (h - a) (c - a) (by omega) (by omega) hx
            rw [← HG.out c (by omega) (by omega), ← HGM.out] at this
            rw [HLV.out] at this
            cases this
        case measure => simp [intOf] <;> omega
      | true =>
        rw [hlv] at hl
        have HLV := hid hlv
        clear hlv
        go_wp2_with (go_at_fn g; refine hl.mono ?_; rintro e w' ⟨rfl, q, rfl⟩)
        go_roundw
        case rel =>
          refine ⟨i, c, rfl, rfl, hai, hic, by omega, H1.out, fun h e1 e2 => ?_, HSW.out.drewN q⟩
          rw [HG.out h (by omega) e2, HGM.out]
          refine HMO.out (c - a) (h - a) (by omega) (by omega) ?_
          rw [← HG.out c (by omega) (by omega), ← HGM.out]
          exact HLV.out
        case measure => simp [intOf] <;> omega
    · obtain rfl : i = j := by omega
      have hnlt : ¬ (i : Int) < i := by omega
      have hT : X ++ mergeL lt u [y] ++ Z = X ++ u.take (i - a) ++ y :: (u.drop (i - a) ++ Z) := by
        have hm := merge_right1 lt y (u.take (i - a)) (u.drop (i - a)) (fun x hx => by
          obtain ⟨n, hn, rfl⟩ := List.getElem_of_mem hx
          rw [List.length_take] at hn
          have := H1.out (n + a) (by omega) (by omega)
          rw [HGM.out, HG.out _ (by omega) (by omega), Nat.add_sub_cancel, getElem!_pos u n (by omega)] at this
          rw [List.getElem_take]
          exact this) (fun x hx => by
          obtain ⟨n, hn, rfl⟩ := List.getElem_of_mem hx
          rw [List.length_drop] at hn
          have := H2.out (i + n) (by omega) (by omega)
          rw [HGM.out, HG.out _ (by omega) (by omega), show i + n - a = i - a + n by omega, getElem!_pos u _ (by omega)] at this
          rw [List.getElem_drop]
          exact this)
        rw [List.take_append_drop] at hm
        rw [hm]
        simp
      have hgo : GoesL d (X ++ mergeL lt u [y] ++ Z) m i := by
        refine ⟨X ++ u.take (i - a), u.drop (i - a), Z, y, ?_, hT.symm, ?_, ?_⟩
        · rw [HD.out, List.append_assoc X, List.take_append_drop, List.append_assoc]
        · rw [List.append_assoc, List.take_append_drop, List.length_append]; omega
        · rw [List.length_append, List.length_take]; omega
      obtain ⟨T, hTe⟩ : ∃ T, X ++ mergeL lt u [y] ++ Z = T := ⟨_, rfl⟩
      rw [hTe] at hgo
      have HTE := hid hTe
      clear hTe
      have HGO := hid hgo
      clear hgo hT
      go_wp2_with fail
      go_loopw [15] (fun vk wq => ∃ (n : Nat) (dk : Array α), vk = .int .i64 n ∧ i ≤ n ∧ n ≤ m ∧ dk.size = d.size ∧ GoesL dk T n i ∧ SWK enc k W1 blk off dk wq) (fun vk _ => (intOf vk).toNat - i)
      case atStart => exact ⟨m, d, rfl, by omega, Nat.le_refl _, rfl, HGO.out, HSW.out⟩
      case round =>
        obtain ⟨n, dk, rfl, han, hni, hds, hgk, hsw⟩ := hrel
        rename World => wq
        have hls := swk_has hsw HLS.out (by omega)
        have e0 := hls.cell 0
        have e1 := hls.cell 1
        have HGK := hid hgk
        have HSQ := hid hsw
        clear hls hgk hsw
        by_cases hn : i < n
        · have hni2 : (i : Int) < (n : Int) := by omega
          have hs := HSP.out wq dk (HSQ.out.holds hbk HH1.out hds) hds n (n - 1) (by have := (goesL_step HGK.out hn).2; omega) (by have := (goesL_step HGK.out hn).2; omega)
          rw [show ((n - 1 : Nat) : Int) = (n : Int) - 1 by omega] at hs
          go_wp2
          go_roundw
          case rel => exact ⟨n - 1, swp dk n (n - 1), by go_num, by omega, by omega, by rw [size_swp]; exact hds, (goesL_step HGK.out hn).1, HSQ.out.swap hk hbk n (n - 1) (by have := (goesL_step HGK.out hn).2; omega) (by have := (goesL_step HGK.out hn).2; omega)⟩
          case measure => simp [intOf] <;> omega
        · have hni2 : ¬ (i : Int) < (n : Int) := by omega
          obtain rfl : n = i := by omega
          go_wp2
          go_returns
          refine ⟨rfl, swk_back HW1.out hblk ?_⟩
          rw [show X ++ (mergeL lt u [y] ++ Z) = T by rw [← List.append_assoc]; exact HTE.out, ← goesL_end HGK.out]
          exact HSQ.out
end Go.Proofs.YtacgnadhpgkcmaaDoor
/- Plain: where symMerge's search ends, and why the merge falls apart there. No program in it. -/
namespace Go.Proofs.YtacgnadhpgkcmaaDoor
set_option linter.unusedVariables false
/-- The first place that is looked at, and the place behind the last one. -/
def symLo (a m b : Nat) : Nat := if (a + b) / 2 < m then (a + b) / 2 + m - b else a
def symHi (a m b : Nat) : Nat := if (a + b) / 2 < m then (a + b) / 2 else m
/-- What holds when the search is at the places from s to r: w tells the weights. -/
structure SymAt (w : Nat → Int) (a m b s r : Nat) : Prop where
  lo : symLo a m b ≤ s
  sr : s ≤ r
  hi : r ≤ symHi a m b
  up : r < symHi a m b → w ((a + b) / 2 + m - 1 - r) < w r
  dn : symLo a m b < s → w (s - 1) ≤ w ((a + b) / 2 + m - 1 - (s - 1))
theorem sym_bounds {a m b : Nat} (h1 : a < m) (h2 : m < b) : a ≤ symLo a m b ∧ symLo a m b ≤ symHi a m b ∧ symHi a m b ≤ m ∧ symHi a m b ≤ (a + b) / 2 ∧ symHi a m b < b := by
  unfold symLo symHi
  split <;> omega
theorem sym_start {w : Nat → Int} {a m b : Nat} (h1 : a < m) (h2 : m < b) : SymAt w a m b (symLo a m b) (symHi a m b) :=
  ⟨Nat.le_refl _, (sym_bounds h1 h2).2.1, Nat.le_refl _, fun h => absurd h (Nat.lt_irrefl _), fun h => absurd h (Nat.lt_irrefl _)⟩
/-- A place that is looked at: both are in their parts. -/
theorem sym_in {w : Nat → Int} {a m b s r : Nat} (h1 : a < m) (h2 : m < b) (h : SymAt w a m b s r) {c : Nat} (hc : s ≤ c) (hr : c < r) : a ≤ c ∧ c < m ∧ m ≤ (a + b) / 2 + m - 1 - c ∧ (a + b) / 2 + m - 1 - c < b := by
  obtain ⟨k1, k2, k3, k4⟩ := sym_bounds h1 h2
  have hl := h.lo
  have hh := h.hi
  unfold symLo at hl k1
  unfold symHi at hh k3 k4
  split at hl <;> simp_all <;> omega
theorem sym_right {w : Nat → Int} {a m b s r c : Nat} (h : SymAt w a m b s r) (hc : s ≤ c) (hr : c < r) (hw : ¬ w ((a + b) / 2 + m - 1 - c) < w c) : SymAt w a m b (c + 1) r :=
  ⟨Nat.le_trans h.lo (by omega), hr, h.hi, h.up, fun _ => by rw [Nat.add_sub_cancel]; omega⟩
theorem sym_left {w : Nat → Int} {a m b s r c : Nat} (h : SymAt w a m b s r) (hc : s ≤ c) (hr : c < r) (hw : w ((a + b) / 2 + m - 1 - c) < w c) : SymAt w a m b s c :=
  ⟨h.lo, hc, Nat.le_trans (Nat.le_of_lt hr) h.hi, fun _ => hw, h.dn⟩
/-- The end of the search: the four parts, and how they stand to each other. -/
theorem sym_found {w : Nat → Int} {a m b s : Nat} (h1 : a < m) (h2 : m < b) (h : SymAt w a m b s s) (hu : ∀ i j, a ≤ i → i ≤ j → j < m → w i ≤ w j) (hv : ∀ i j, m ≤ i → i ≤ j → j < b → w i ≤ w j) :
    a ≤ s ∧ s ≤ m ∧ s ≤ (a + b) / 2 ∧ m ≤ (a + b) / 2 + m - s ∧ (a + b) / 2 + m - s ≤ b ∧ (∀ x y, s ≤ x → x < m → m ≤ y → y < (a + b) / 2 + m - s → w y < w x) ∧ (∀ x y, a ≤ x → x < s → (a + b) / 2 + m - s ≤ y → y < b → w x ≤ w y) := by
  obtain ⟨k1, k2, k3, k4, k5⟩ := sym_bounds h1 h2
  have hlo := h.lo
  have hhi := h.hi
  have hup := h.up
  have hdn := h.dn
  refine ⟨by omega, by omega, by omega, by omega, ?_, fun x y e1 e2 e3 e4 => ?_, fun x y e1 e2 e3 e4 => ?_⟩
  · unfold symLo at hlo
    split at hlo <;> omega
  · by_cases e : s < symHi a m b
    · have t1 := hup e
      have t2 := hu s x (by omega) e1 e2
      have t3 := hv y ((a + b) / 2 + m - 1 - s) e3 (by omega) (by unfold symLo at hlo; split at hlo <;> omega)
      omega
    · exfalso
      have e' : s = symHi a m b := by omega
      unfold symHi at e'
      split at e' <;> omega
  · by_cases e : symLo a m b < s
    · have t1 := hdn e
      have t2 := hu x (s - 1) e1 (by omega) (by omega)
      have t3 := hv ((a + b) / 2 + m - 1 - (s - 1)) y (by omega) (by omega) e4
      omega
    · exfalso
      have e' : s = symLo a m b := by omega
      unfold symLo at e'
      split at e' <;> omega
end Go.Proofs.YtacgnadhpgkcmaaDoor
/- Plain: the stable merge of two sorted lists, by any weights; sorting a list is merging its sorted parts. No program in it. -/
namespace Go.Proofs.YtacgnadhpgkcmaaDoor
open Go.RowKit Go.Conc
set_option linter.unusedVariables false
def wLt {α : Type} (wt : α → Int) (x y : α) : Bool := decide (wt x < wt y)
def AscW {α : Type} (wt : α → Int) (L : List α) : Prop := L.Pairwise fun x y => wt x ≤ wt y
def sortW {α : Type} (wt : α → Int) (L : List α) : List α := sortL (wLt wt) L
/-- Inserted from the end. -/
def insFW {α : Type} (wt : α → Int) (p : α) (S : List α) : List α := (insRev (wLt wt) p S.reverse).reverse
theorem insRev_descW {α : Type} (wt : α → Int) (x : α) : ∀ r : List α, r.Pairwise (fun x y => wt y ≤ wt x) → (insRev (wLt wt) x r).Pairwise (fun x y => wt y ≤ wt x)
  | [], _ => by simp [insRev]
  | y :: r, h => by
    have h' := h
    rw [List.pairwise_cons] at h
    unfold insRev
    split
    · rename_i hxy
      have hxy : wt x < wt y := of_decide_eq_true hxy
      rw [List.pairwise_cons]
      refine ⟨fun z hz => ?_, insRev_descW wt x r h.2⟩
      rcases (insRev_mem (wLt wt) x r z).1 hz with e | e
      · rw [e]; omega
      · exact h.1 z e
    · rename_i hxy
      have hxy : ¬ wt x < wt y := fun hh => hxy (decide_eq_true hh)
      rw [List.pairwise_cons]
      refine ⟨fun z hz => ?_, h'⟩
      rcases List.mem_cons.1 hz with e | e
      · rw [e]; omega
      · have := h.1 z e; omega
theorem fold_descW {α : Type} (wt : α → Int) : ∀ (l r : List α), r.Pairwise (fun x y => wt y ≤ wt x) → (l.foldl (fun r x => insRev (wLt wt) x r) r).Pairwise (fun x y => wt y ≤ wt x)
  | [], r, h => h
  | x :: l, r, h => fold_descW wt l _ (insRev_descW wt x r h)
theorem sortW_asc {α : Type} (wt : α → Int) (M : List α) : AscW wt (sortW wt M) := by
  unfold AscW sortW sortL
  rw [List.pairwise_reverse]
  exact fold_descW wt M [] List.Pairwise.nil
theorem merge_ascW {α : Type} (wt : α → Int) : ∀ u v : List α, AscW wt u → AscW wt v → AscW wt (mergeL (wLt wt) u v)
  | [], v, _, h => by rw [mergeL_nil]; exact h
  | x :: u, [], h, _ => by rw [mergeL_none]; exact h
  | x :: u, y :: v, hu, hv => by
    have hu' := hu
    have hv' := hv
    unfold AscW at hu' hv'
    rw [List.pairwise_cons] at hu' hv'
    rw [mergeL]
    split
    · rename_i hxy
      have hxy : wt y < wt x := of_decide_eq_true hxy
      unfold AscW
      rw [List.pairwise_cons]
      refine ⟨fun z hz => ?_, merge_ascW wt (x :: u) v hu hv'.2⟩
      rcases (mergeL_mem (wLt wt) _ _ z).1 hz with e | e
      · rcases List.mem_cons.1 e with rfl | e
        · omega
        · have := hu'.1 z e; omega
      · exact hv'.1 z e
    · rename_i hxy
      have hxy : ¬ wt y < wt x := fun h => hxy (decide_eq_true h)
      unfold AscW
      rw [List.pairwise_cons]
      refine ⟨fun z hz => ?_, merge_ascW wt u (y :: v) hu'.2 hv⟩
      rcases (mergeL_mem (wLt wt) _ _ z).1 hz with e | e
      · exact hu'.1 z e
      · rcases List.mem_cons.1 e with rfl | e
        · omega
        · have := hv'.1 z e; omega
theorem insFW_nil {α : Type} (wt : α → Int) (p : α) : insFW wt p [] = [p] := rfl
theorem insFW_cons {α : Type} (wt : α → Int) (p y : α) (S : List α) (h : AscW wt (y :: S)) : insFW wt p (y :: S) = if wt p < wt y then p :: y :: S else y :: insFW wt p S := by
  unfold AscW at h
  rw [List.pairwise_cons] at h
  unfold insFW
  rw [List.reverse_cons, insRev_app]
  by_cases hp : wt p < wt y
  · have ha : S.reverse.all ((wLt wt) p) = true := by
      rw [List.all_eq_true]
      intro z hz
      have := h.1 z (List.mem_reverse.1 hz)
      exact decide_eq_true (by omega)
    rw [if_pos hp, if_pos ha]
    have : insRev (wLt wt) p [y] = [y, p] := by unfold insRev; rw [if_pos (show (wLt wt) p y = true from decide_eq_true hp)]; rfl
    rw [this]
    simp
  · rw [if_neg hp]
    split
    · have : insRev (wLt wt) p [y] = [p, y] := by unfold insRev; rw [if_neg (show ¬ (wLt wt) p y = true from fun e => hp (of_decide_eq_true e))]
      rw [this]
      rename_i ha
      have hall : insRev (wLt wt) p S.reverse = S.reverse ++ [p] := by
        have := insRev_app (wLt wt) p [] S.reverse
        rw [List.append_nil, if_pos ha] at this
        exact this
      rw [hall]
      simp
    · simp
theorem merge_insW {α : Type} (wt : α → Int) (p : α) : ∀ u v : List α, AscW wt u → AscW wt v → mergeL (wLt wt) u (insFW wt p v) = insFW wt p (mergeL (wLt wt) u v)
  | [], v, _, _ => by rw [mergeL_nil, mergeL_nil]
  | x :: u, [], hu, _ => by
    have hu' := hu
    unfold AscW at hu'
    rw [List.pairwise_cons] at hu'
    have ih := merge_insW wt p u [] hu'.2 List.Pairwise.nil
    rw [mergeL_none, insFW_nil wt] at ih
    rw [mergeL_none, insFW_cons wt p x u hu, insFW_nil wt, mergeL, mergeL_none, ih]
    by_cases h : wt p < wt x
    · rw [if_pos h, if_pos (show (wLt wt) p x = true from decide_eq_true h)]
    · rw [if_neg h, if_neg (show ¬ (wLt wt) p x = true from fun e => h (of_decide_eq_true e))]
  | x :: u, y :: v, hu, hv => by
    have hu' := hu
    have hv' := hv
    unfold AscW at hu' hv'
    rw [List.pairwise_cons] at hu' hv'
    have hM := merge_ascW wt _ _ hu hv
    have ih1 := merge_insW wt p u (y :: v) hu'.2 hv
    have ih2 := merge_insW wt p (x :: u) v hu hv'.2
    rw [insFW_cons wt p y v hv] at ih1 ⊢
    have hL : mergeL (wLt wt) (x :: u) (y :: v) = if (wLt wt) y x then y :: mergeL (wLt wt) (x :: u) v else x :: mergeL (wLt wt) u (y :: v) := by rw [mergeL]
    by_cases hyx : wt y < wt x
    · have b1 : (wLt wt) y x = true := decide_eq_true hyx
      rw [hL, if_pos b1] at hM
      rw [hL, if_pos b1, insFW_cons wt p y _ hM]
      by_cases hp : wt p < wt y
      · rw [if_pos hp, if_pos hp, mergeL, if_pos (show (wLt wt) p x = true from decide_eq_true (by omega)), hL, if_pos b1]
      · rw [if_neg hp, if_neg hp, mergeL, if_pos b1, ih2]
    · have b1 : ¬ (wLt wt) y x = true := fun e => hyx (of_decide_eq_true e)
      rw [hL, if_neg b1] at hM
      rw [hL, if_neg b1, insFW_cons wt p x _ hM]
      by_cases hp : wt p < wt y
      · rw [if_pos hp] at ih1 ⊢
        rw [mergeL, hL, if_neg b1]
        by_cases hpx : wt p < wt x
        · rw [if_pos hpx, if_pos (show (wLt wt) p x = true from decide_eq_true hpx)]
        · rw [if_neg hpx, if_neg (show ¬ (wLt wt) p x = true from fun e => hpx (of_decide_eq_true e)), ih1]
      · rw [if_neg hp] at ih1 ⊢
        rw [mergeL, if_neg b1, if_neg (by omega), ih1]
theorem sortW_snoc {α : Type} (wt : α → Int) (L : List α) (p : α) : sortW wt (L ++ [p]) = insFW wt p (sortW wt L) := by
  unfold sortW sortL insFW
  rw [List.foldl_append, List.reverse_reverse]; rfl
/-- Sorting is merging the sorted parts. -/
theorem sort_mergeW {α : Type} (wt : α → Int) (A : List α) : ∀ n (B : List α), B.length = n → sortW wt (A ++ B) = mergeL (wLt wt) (sortW wt A) (sortW wt B)
  | 0, B, h => by
    obtain rfl : B = [] := List.length_eq_zero_iff.1 h
    rw [List.append_nil]
    exact (mergeL_none (wLt wt) _).symm
  | n + 1, B, h => by
    obtain ⟨C, p, rfl⟩ : ∃ C p, B = C ++ [p] := by
      have hne : B ≠ [] := fun e => by rw [e] at h; simp at h
      exact ⟨B.dropLast, B.getLast hne, (List.dropLast_concat_getLast hne).symm⟩
    rw [← List.append_assoc, sortW_snoc wt, sortW_snoc wt, sort_mergeW wt A n C (by simpa using h), merge_insW wt p _ _ (sortW_asc wt A) (sortW_asc wt C)]
end Go.Proofs.YtacgnadhpgkcmaaDoor
/- Plain: the insertion sort of a part of a row; rows that are sorted block by block, and what merging neighbours makes of them. No program in it. -/
namespace Go.Proofs.YtacgnadhpgkcmaaDoor
open Go.Sort
set_option linter.unusedVariables false
section
variable {α : Type} [Inhabited α]
theorem inner_at (lt : α → α → Bool) (x : α) (Q : List α) : ∀ (P S : List α), insInner lt Q.length (Q.length + P.length) (Q ++ (P.reverse ++ x :: S)).toArray = (Q ++ ((insRev lt x P).reverse ++ S)).toArray
  | [], S => by
    cases hq : Q.length with
    | zero => rfl
    | succ k =>
      show insInner lt (k + 1) (k + 1) _ = _
      unfold insInner
      rw [if_neg (by simp)]
      rfl
  | y :: P, S => by
    have e0 : Q ++ ((y :: P).reverse ++ x :: S) = (Q ++ P.reverse) ++ y :: x :: S := by simp
    have hl : (Q ++ P.reverse).length = Q.length + P.length := by simp
    have h1 : ((Q ++ P.reverse) ++ y :: x :: S).toArray[Q.length + P.length + 1]! = x := by
      have e5 : (Q ++ P.reverse) ++ y :: x :: S = ((Q ++ P.reverse) ++ [y]) ++ x :: S := by simp
      have l5 : ((Q ++ P.reverse) ++ [y]).length = Q.length + P.length + 1 := by simp; omega
      rw [e5, ← l5]
      exact get_mid _ _ _
    have h2 : ((Q ++ P.reverse) ++ y :: x :: S).toArray[Q.length + P.length]! = y := by
      rw [← hl]
      exact get_mid (Q ++ P.reverse) (x :: S) y
    have h3 : swp ((Q ++ P.reverse) ++ y :: x :: S).toArray (Q.length + P.length + 1) (Q.length + P.length) = ((Q ++ P.reverse) ++ x :: y :: S).toArray := by
      rw [← hl]
      exact swp_mid (Q ++ P.reverse) S x y
    rw [e0]
    show insInner lt Q.length (Q.length + P.length + 1) _ = _
    unfold insInner insRev
    rw [h1, h2, h3]
    by_cases hx : lt x y = true
    · rw [if_pos (by simp [hx]; omega), if_pos hx, List.append_assoc, inner_at lt x Q P (y :: S)]
      simp
    · rw [if_neg (by simp [hx]), if_neg hx]
      simp
theorem outer_at (lt : α → α → Bool) (Q Z : List α) : ∀ (S R : List α) (b : Nat), b = Q.length + R.length + S.length → insOuter lt Q.length b (Q.length + R.length) (Q ++ (R.reverse ++ (S ++ Z))).toArray = (Q ++ ((S.foldl (fun r x => insRev lt x r) R).reverse ++ Z)).toArray
  | [], R, b, h => by
    unfold insOuter
    rw [if_neg (by simp at h; omega)]
    simp
  | x :: S, R, b, h => by
    unfold insOuter
    rw [if_pos (by simp at h; omega), List.cons_append, inner_at lt x Q R (S ++ Z), List.foldl_cons]
    have := outer_at lt Q Z S (insRev lt x R) b (by rw [insRev_len]; simp at h; omega)
    rw [insRev_len] at this
    exact this
theorem sort_at (lt : α → α → Bool) (Q Z : List α) : ∀ (S : List α), Sort.insertionSort lt (Q ++ (S ++ Z)).toArray Q.length (Q.length + S.length) = (Q ++ (sortL lt S ++ Z)).toArray
  | [] => by
    unfold Sort.insertionSort insOuter
    rw [if_neg (by simp)]
    rfl
  | x :: S => by
    have := outer_at lt Q Z S [x] (Q.length + (x :: S).length) (by simp; omega)
    exact this
end
section
variable {α : Type}
/-- The first q blocks of B elements, each sorted. -/
def preS (wt : α → Int) (B : Nat) : Nat → List α → List α
  | 0, _ => []
  | q + 1, l => sortW wt (l.take B) ++ preS wt B q (l.drop B)
theorem sortW_len (wt : α → Int) (l : List α) : (sortW wt l).length = l.length := sortL_len _ l
theorem preS_len (wt : α → Int) (B : Nat) : ∀ (q : Nat) (l : List α), B * q ≤ l.length → (preS wt B q l).length = B * q
  | 0, l, _ => by simp [preS]
  | q + 1, l, h => by
    rw [Nat.mul_succ] at h ⊢
    rw [preS, List.length_append, sortW_len, List.length_take, preS_len wt B q (l.drop B) (by rw [List.length_drop]; omega), Nat.min_eq_left (by omega)]
    omega
theorem preS_snoc (wt : α → Int) (B : Nat) : ∀ (q : Nat) (l : List α), preS wt B (q + 1) l = preS wt B q l ++ sortW wt ((l.drop (B * q)).take B)
  | 0, l => by simp [preS]
  | q + 1, l => by
    have ih := preS_snoc wt B q (l.drop B)
    rw [preS, ih, preS, List.append_assoc, List.drop_drop, Nat.mul_succ, Nat.add_comm B]
theorem two_sort (wt : α → Int) (B : Nat) (m : List α) : mergeL (wLt wt) (sortW wt (m.take B)) (sortW wt ((m.drop B).take B)) = sortW wt (m.take (2 * B)) := by
  rw [← sort_mergeW wt _ _ _ rfl, ← List.take_add, Nat.two_mul]
theorem rest_sort (wt : α → Int) (B : Nat) (m : List α) : mergeL (wLt wt) (sortW wt (m.take B)) (sortW wt (m.drop B)) = sortW wt m := by
  rw [← sort_mergeW wt _ _ _ rfl, List.take_append_drop]
/-- A row that is sorted block by block. -/
def blkS (wt : α → Int) (B q : Nat) (l : List α) : List α := preS wt B q l ++ sortW wt (l.drop (B * q))
/-- The same, r pairs of blocks being merged. -/
def rowS (wt : α → Int) (B q r : Nat) (l : List α) : List α := preS wt (2 * B) r l ++ (preS wt B (q - 2 * r) (l.drop (2 * B * r)) ++ sortW wt (l.drop (B * q)))
theorem row_first (wt : α → Int) (B q : Nat) (l : List α) : rowS wt B q 0 l = blkS wt B q l := by simp [rowS, blkS, preS]
theorem row_step (wt : α → Int) (B q r : Nat) (l : List α) (hq : 2 * r + 2 ≤ q) (hl : B * q ≤ l.length) :
    ∃ X u v Z : List α, rowS wt B q r l = X ++ (u ++ (v ++ Z)) ∧ X.length = 2 * B * r ∧ u.length = B ∧ v.length = B ∧ AscW wt u ∧ AscW wt v ∧ X ++ (mergeL (wLt wt) u v ++ Z) = rowS wt B q (r + 1) l := by
  obtain ⟨k, hk⟩ : ∃ k, q - 2 * r = k + 2 := ⟨q - 2 * r - 2, by omega⟩
  have h2 : 2 * B * r + 2 * B ≤ B * q := by
    have e : 2 * B * r + 2 * B = B * (2 * r + 2) := by rw [Nat.mul_add, Nat.mul_comm 2 B, Nat.mul_assoc]
    rw [e]
    exact Nat.mul_le_mul_left _ hq
  refine ⟨preS wt (2 * B) r l, sortW wt ((l.drop (2 * B * r)).take B), sortW wt (((l.drop (2 * B * r)).drop B).take B), preS wt B k (((l.drop (2 * B * r)).drop B).drop B) ++ sortW wt (l.drop (B * q)), ?_, ?_, ?_, ?_, sortW_asc wt _, sortW_asc wt _, ?_⟩
  · rw [rowS, hk, preS, preS]
    simp
  · exact preS_len wt (2 * B) r l (by omega)
  · rw [sortW_len, List.length_take, List.length_drop]; omega
  · rw [sortW_len, List.length_take, List.length_drop, List.length_drop]; omega
  · rw [two_sort, rowS, preS_snoc, show q - 2 * (r + 1) = k by omega, List.drop_drop, List.drop_drop]
    have e : 2 * B * (r + 1) = 2 * B * r + (B + B) := by rw [Nat.mul_succ]; omega
    rw [e]
    simp only [List.append_assoc]
theorem row_last (wt : α → Int) (B q r : Nat) (l : List α) (hq : q = 2 * r + 1) (hl : B * q ≤ l.length) :
    ∃ X u v : List α, rowS wt B q r l = X ++ (u ++ (v ++ [])) ∧ X.length = 2 * B * r ∧ u.length = B ∧ v.length = l.length - B * q ∧ AscW wt u ∧ AscW wt v ∧ X ++ (mergeL (wLt wt) u v ++ []) = blkS wt (2 * B) r l := by
  have h2 : B * q = 2 * B * r + B := by rw [hq, Nat.mul_add, Nat.mul_one, Nat.mul_comm 2 B, Nat.mul_assoc]
  refine ⟨preS wt (2 * B) r l, sortW wt ((l.drop (2 * B * r)).take B), sortW wt ((l.drop (2 * B * r)).drop B), ?_, ?_, ?_, ?_, sortW_asc wt _, sortW_asc wt _, ?_⟩
  · rw [rowS, show q - 2 * r = 1 by omega, preS, preS, h2, List.drop_drop]
    simp
  · exact preS_len wt (2 * B) r l (by omega)
  · rw [sortW_len, List.length_take, List.length_drop]; omega
  · rw [sortW_len, List.length_drop, List.length_drop]; omega
  · rw [rest_sort, blkS, List.append_nil]
theorem row_none (wt : α → Int) (B q r : Nat) (l : List α) (hq : q = 2 * r ∨ q = 2 * r + 1 ∧ B * q = l.length) : rowS wt B q r l = blkS wt (2 * B) r l := by
  rcases hq with rfl | ⟨rfl, hl⟩
  · rw [rowS, blkS, Nat.sub_self, preS, List.nil_append, Nat.mul_comm 2 B, Nat.mul_assoc]
  · have h2 : B * (2 * r + 1) = 2 * B * r + B := by rw [Nat.mul_add, Nat.mul_one, Nat.mul_comm 2 B, Nat.mul_assoc]
    have h3 : l.drop (B * (2 * r + 1)) = [] := List.drop_eq_nil_of_le (by omega)
    have h4 : (l.drop (2 * B * r)).take B = l.drop (2 * B * r) := List.take_of_length_le (by rw [List.length_drop]; omega)
    rw [rowS, blkS, show 2 * r + 1 - 2 * r = 1 by omega, preS, preS, h3, h4]
    simp [sortW, sortL]
theorem blk_end (wt : α → Int) (B q : Nat) (l : List α) (h1 : B * q ≤ l.length) (h2 : l.length ≤ B) (h3 : l.length < B * (q + 1)) : blkS wt B q l = sortW wt l := by
  match q, h1, h3 with
  | 0, _, _ => simp [blkS, preS]
  | 1, h1, _ =>
    have e : l.length = B := by omega
    rw [blkS, preS, preS, Nat.mul_one, List.take_of_length_le (by omega), List.drop_eq_nil_of_le (by omega)]
    simp [sortW, sortL]
  | q + 2, h1, h3 =>
    exfalso
    have : B * 2 ≤ B * (q + 2) := Nat.mul_le_mul_left _ (by omega)
    have hB : B = 0 := by omega
    subst hB
    simp at h3
/-- The rows while the blocks are sorted. -/
def insS (wt : α → Int) (B q : Nat) (l : List α) : List α := preS wt B q l ++ l.drop (B * q)
theorem ins_step (wt : α → Int) (B q : Nat) (l : List α) (hl : B * (q + 1) ≤ l.length) :
    ∃ Q S Z : List α, insS wt B q l = Q ++ (S ++ Z) ∧ Q.length = B * q ∧ S.length = B ∧ Q ++ (sortW wt S ++ Z) = insS wt B (q + 1) l := by
  rw [Nat.mul_succ] at hl
  refine ⟨preS wt B q l, (l.drop (B * q)).take B, (l.drop (B * q)).drop B, ?_, preS_len wt B q l (by omega), ?_, ?_⟩
  · rw [List.take_append_drop]; rfl
  · rw [List.length_take, List.length_drop]; omega
  · rw [insS, preS_snoc, List.append_assoc, List.drop_drop, Nat.mul_succ]
theorem ins_last (wt : α → Int) (B q : Nat) (l : List α) (hl : B * q ≤ l.length) :
    ∃ Q S : List α, insS wt B q l = Q ++ (S ++ []) ∧ Q.length = B * q ∧ S.length = l.length - B * q ∧ Q ++ (sortW wt S ++ []) = blkS wt B q l :=
  ⟨preS wt B q l, l.drop (B * q), by rw [List.append_nil]; rfl, preS_len wt B q l hl, List.length_drop, by rw [List.append_nil]; rfl⟩
end
end Go.Proofs.YtacgnadhpgkcmaaDoor
/- sort.symMerge_func at any two parts (contract of the function). -/
namespace Go.Proofs.YtacgnadhpgkcmaaDoor
open Go.RowKit Go.Shelf Go.Lib Go.Sort
set_option linter.unusedVariables false
variable {α : Type} [Inhabited α]
theorem swk_trans {enc : α → List Value} {k : Nat} {w0 W w : World} {blk off : Nat} {d T : Array α} (h : SWK enc k w0 blk off d W) (hblk : blk < w0.heap.size) (h2 : SWK enc k W blk off T w) (hs : T.size = d.size) : SWK enc k w0 blk off T w := by
  obtain ⟨n, os, rfl⟩ := h2
  exact h.on hblk n T os hs
theorem asc_get {wt : α → Int} {u : List α} (h : AscW wt u) {i j : Nat} (hij : i ≤ j) (hj : j < u.length) : wt u[i]! ≤ wt u[j]! := by
  rw [getElem!_pos u i (by omega), getElem!_pos u j hj]
  rcases Nat.lt_or_ge i j with h1 | h1
  · exact List.pairwise_iff_getElem.1 h i j (by omega) hj h1
  · obtain rfl : i = j := by omega
    exact Int.le_refl _
/-- What symMerge does with two parts of at most N elements together. -/
def SymSays (enc : α → List Value) (k : Nat) (wt : α → Int) (g : Nat) (lb : Array Value) (sf : Nat) (sb : Array Value) (blk off size N : Nat) : Prop :=
  ∀ (X u v Z : List α) (a m b : Nat) (W : World), b - a ≤ N → X.length = a → a + u.length = m → m + v.length = b → a < m → m < b → (X ++ (u ++ (v ++ Z))).length = size → AscW wt u → AscW wt v →
    LessReadsK Tryd.prog g lb enc k (wLt wt) blk off size W → HoldsK enc k W blk off (X ++ (u ++ (v ++ Z))).toArray → blk < W.heap.size →
    Calls Tryd.prog 82 #[.agg #[.func (.func g) #[] lb, .func (.func sf) #[] sb], .int .i64 a, .int .i64 m, .int .i64 b] W fun e w' => e = .returned (.tuple #[]) ∧ SWK enc k W blk off (X ++ (mergeL (wLt wt) u v ++ Z)).toArray w'
omit [Inhabited α] in
theorem merge_len {lt : α → α → Bool} : ∀ u v : List α, (mergeL lt u v).length = u.length + v.length
  | [], v => by rw [mergeL_nil]; simp
  | x :: u, [] => by rw [mergeL_none]; simp
  | x :: u, y :: v => by
    rw [mergeL]
    split
    · have := merge_len (lt := lt) (x :: u) v
      simp only [List.length_cons] at this ⊢; omega
    · have := merge_len (lt := lt) u (y :: v)
      simp only [List.length_cons] at this ⊢; omega
/-- The row's four parts, and what each step of symMerge makes of them. -/
structure SymPt (wt : α → Int) (X u v Z L1 L2 L3 : List α) (a m b s mid e : Nat) : Prop where
  e1 : ¬ (s < m ∧ m < e) → X ++ (u ++ (v ++ Z)) = L1
  e2 : ¬ (a < s ∧ s < mid) → L1 = L2
  e3 : ¬ (mid < e ∧ e < b) → L2 = L3
  e4 : L3 = X ++ (mergeL (wLt wt) u v ++ Z)
  l1 : L1.length = (X ++ (u ++ (v ++ Z))).length
  l2 : L2.length = (X ++ (u ++ (v ++ Z))).length
  l3 : L3.length = (X ++ (u ++ (v ++ Z))).length
  rot : s < m → m < e → RotAt (X ++ (u ++ (v ++ Z))).toArray L1 m (m - s) (e - m)
  c1 : ∃ u1 v1 Y, L1 = X ++ (u1 ++ (v1 ++ Y)) ∧ L2 = X ++ (mergeL (wLt wt) u1 v1 ++ Y) ∧ a + u1.length = s ∧ s + v1.length = mid ∧ AscW wt u1 ∧ AscW wt v1
  c2 : ∃ Y u2 v2, L2 = Y ++ (u2 ++ (v2 ++ Z)) ∧ L3 = Y ++ (mergeL (wLt wt) u2 v2 ++ Z) ∧ Y.length = mid ∧ mid + u2.length = e ∧ e + v2.length = b ∧ AscW wt u2 ∧ AscW wt v2
theorem sym_parts {wt : α → Int} {X u v Z : List α} {a m b s mid e : Nat} (hX : X.length = a) (hu : a + u.length = m) (hv : m + v.length = b) (au : AscW wt u) (av : AscW wt v) (hm : (a + b) / 2 = mid) (he : mid + m - s = e)
    (h1 : a ≤ s) (h2 : s ≤ m) (h3 : s ≤ mid) (h4 : m ≤ e) (h5 : e ≤ b)
    (f1 : ∀ x y, s ≤ x → x < m → m ≤ y → y < e → wt (X ++ (u ++ (v ++ Z))).toArray[y]! < wt (X ++ (u ++ (v ++ Z))).toArray[x]!)
    (f2 : ∀ x y, a ≤ x → x < s → e ≤ y → y < b → wt (X ++ (u ++ (v ++ Z))).toArray[x]! ≤ wt (X ++ (u ++ (v ++ Z))).toArray[y]!) : ∃ L1 L2 L3, SymPt wt X u v Z L1 L2 L3 a m b s mid e := by
  obtain ⟨u1, u2, rfl, hu1⟩ : ∃ u1 u2, u = u1 ++ u2 ∧ a + u1.length = s := ⟨u.take (s - a), u.drop (s - a), (List.take_append_drop _ _).symm, by rw [List.length_take]; omega⟩
  obtain ⟨v1, v2, rfl, hv1⟩ : ∃ v1 v2, v = v1 ++ v2 ∧ m + v1.length = e := ⟨v.take (e - m), v.drop (e - m), (List.take_append_drop _ _).symm, by rw [List.length_take]; omega⟩
  rw [List.length_append] at hu hv
  have gu : ∀ i, i < (u1 ++ u2).length → (X ++ ((u1 ++ u2) ++ ((v1 ++ v2) ++ Z))).toArray[a + i]! = (u1 ++ u2)[i]! := fun i hi => by
    have hq : (X ++ ((u1 ++ u2) ++ ((v1 ++ v2) ++ Z)))[a + i]? = (u1 ++ u2)[i]? := by
      rw [List.getElem?_append_right (by omega), hX, Nat.add_sub_cancel_left, List.getElem?_append_left hi]
    simp only [getElem!_def, List.getElem?_toArray, hq]
  have gv : ∀ i, i < (v1 ++ v2).length → (X ++ ((u1 ++ u2) ++ ((v1 ++ v2) ++ Z))).toArray[m + i]! = (v1 ++ v2)[i]! := fun i hi => by
    have hq : (X ++ ((u1 ++ u2) ++ ((v1 ++ v2) ++ Z)))[m + i]? = (v1 ++ v2)[i]? := by
      rw [List.getElem?_append_right (by omega), List.getElem?_append_right (by rw [List.length_append]; omega), show m + i - X.length - (u1 ++ u2).length = i by rw [List.length_append]; omega, List.getElem?_append_left hi]
    simp only [getElem!_def, List.getElem?_toArray, hq]
  have k1 : ∀ y ∈ v1, ∀ x ∈ u2, wLt wt y x = true := fun y hy x hx => by
    obtain ⟨i, hi, rfl⟩ := List.getElem_of_mem hy
    obtain ⟨j, hj, rfl⟩ := List.getElem_of_mem hx
    have := f1 (a + (u1.length + j)) (m + i) (by omega) (by omega) (by omega) (by omega)
    rw [gu _ (by rw [List.length_append]; omega), gv _ (by rw [List.length_append]; omega), getElem!_pos _ _ (by rw [List.length_append]; omega), getElem!_pos _ _ (by rw [List.length_append]; omega), List.getElem_append_left hi, List.getElem_append_right (by omega)] at this
    simp only [Nat.add_sub_cancel_left] at this
    exact decide_eq_true this
  have k2 : ∀ x ∈ u1, ∀ y ∈ v2, wLt wt y x = false := fun x hx y hy => by
    obtain ⟨i, hi, rfl⟩ := List.getElem_of_mem hx
    obtain ⟨j, hj, rfl⟩ := List.getElem_of_mem hy
    have := f2 (a + i) (m + (v1.length + j)) (by omega) (by omega) (by omega) (by omega)
    rw [gu _ (by rw [List.length_append]; omega), gv _ (by rw [List.length_append]; omega), getElem!_pos _ _ (by rw [List.length_append]; omega), getElem!_pos _ _ (by rw [List.length_append]; omega), List.getElem_append_left hi, List.getElem_append_right (by omega)] at this
    simp only [Nat.add_sub_cancel_left] at this
    exact decide_eq_false (by omega)
  have hs := merge_split (wLt wt) u2 v2 u1 v1 k1 k2
  unfold AscW at au av
  rw [List.pairwise_append] at au av
  refine ⟨X ++ (u1 ++ (v1 ++ (u2 ++ (v2 ++ Z)))), X ++ (mergeL (wLt wt) u1 v1 ++ (u2 ++ (v2 ++ Z))), X ++ (mergeL (wLt wt) u1 v1 ++ (mergeL (wLt wt) u2 v2 ++ Z)), ?_, ?_, ?_, ?_, ?_, ?_, ?_, ?_, ?_, ?_⟩
  · intro hn
    rcases (show s = m ∨ e = m by omega) with h | h
    · obtain rfl : u2 = [] := List.length_eq_zero_iff.1 (by omega)
      simp
    · obtain rfl : v1 = [] := List.length_eq_zero_iff.1 (by omega)
      simp
  · intro hn
    rcases (show s = a ∨ s = mid by omega) with h | h
    · obtain rfl : u1 = [] := List.length_eq_zero_iff.1 (by omega)
      rw [mergeL_nil]; simp
    · obtain rfl : v1 = [] := List.length_eq_zero_iff.1 (by omega)
      rw [mergeL_none]; simp
  · intro hn
    rcases (show e = mid ∨ e = b by omega) with h | h
    · obtain rfl : u2 = [] := List.length_eq_zero_iff.1 (by omega)
      rw [mergeL_nil]; simp
    · obtain rfl : v2 = [] := List.length_eq_zero_iff.1 (by omega)
      rw [mergeL_none]; simp
  · rw [hs]; simp
  · simp only [List.length_append]; omega
  · simp only [List.length_append, merge_len]; omega
  · simp only [List.length_append, merge_len]; omega
  · intro hsm hme
    exact ⟨X ++ u1, u2, v1, v2 ++ Z, by simp, by simp, by rw [List.length_append]; omega, by omega, by omega⟩
  · exact ⟨u1, v1, u2 ++ (v2 ++ Z), rfl, rfl, hu1, by omega, au.1, av.1⟩
  · exact ⟨X ++ mergeL (wLt wt) u1 v1, u2, v2, by simp, by simp, by rw [List.length_append, merge_len]; omega, by omega, by omega, au.2.1, av.2.1⟩
set_option maxHeartbeats 8000000 in
set_option maxRecDepth 100000 in
theorem symG_a (enc : α → List Value) (k : Nat) (hk : ∀ x, (enc x).length = k) (wt : α → Int) (g : Nat) (lb : Array Value) (sf : Nat) (sb : Array Value) (blk off size N : Nat) (X u v Z : List α) (a m b : Nat) (W : World)
    (ih : SymSays enc k wt g lb sf sb blk off size N) (hN : b - a ≤ N + 1) (hX : X.length = a) (hu : a + u.length = m) (hv : m + v.length = b) (ham : a < m) (hmb : m < b) (hn1 : Hid (m ≠ a + 1)) (hn2 : Hid (b ≠ m + 1)) (hsz : (X ++ (u ++ (v ++ Z))).length = size) (au : AscW wt u) (av : AscW wt v)
    (mid : Nat) (hmd : (a + b) / 2 = mid) (hmm : mid < m)
    (eg : ∀ args w, (callFunc g args).run Tryd.prog w = .ok (.enter g args) w) (hless : LessReadsK Tryd.prog g lb enc k (wLt wt) blk off size W)
    (hswap : SwapSwapsK Tryd.prog sf sb enc k blk off size) (hH : HoldsK enc k W blk off (X ++ (u ++ (v ++ Z))).toArray) (hblk : blk < W.heap.size) (hbig : size < 4611686018427387904) :
    Calls Tryd.prog 82 #[.agg #[.func (.func g) #[] lb, .func (.func sf) #[] sb], .int .i64 a, .int .i64 m, .int .i64 b] W fun e w' => e = .returned (.tuple #[]) ∧ SWK enc k W blk off (X ++ (mergeL (wLt wt) u v ++ Z)).toArray w' := by
  obtain ⟨d, hd⟩ : ∃ d, (X ++ (u ++ (v ++ Z))).toArray = d := ⟨_, rfl⟩
  have hds : d.size = size := by rw [← hd]; simpa using hsz
  have hbs : b ≤ size := by rw [← hsz]; simp only [List.length_append]; omega
  obtain ⟨x0, hx0⟩ : ∃ x : Int, IntKind.i64.wrap ((m : Int) - (a : Int)) = x := ⟨_, rfl⟩
  have hw0 : (x0 == 1) = false := by have := hn1.out; rw [← hx0, IntWalk.i64_in _ (by omega)]; simp; omega
  obtain ⟨x1, hx1⟩ : ∃ x : Int, IntKind.i64.wrap ((b : Int) - (m : Int)) = x := ⟨_, rfl⟩
  have hw1 : (x1 == 1) = false := by have := hn2.out; rw [← hx1, IntWalk.i64_in _ (by omega)]; simp; omega
  have hmid : ((a : Int) + (b : Int)) / 2 = mid := by omega
  have hmidb : mid < b := by omega
  have hamid : a < mid := by have := hn1.out; have := hn2.out; omega
  have hwu : ∀ i j, a ≤ i → i ≤ j → j < m → wt d[i]! ≤ wt d[j]! := fun i j h1 h2 h3 => by
    have gu : ∀ i, i < u.length → d[a + i]! = u[i]! := fun i hi => by
      have hq : (X ++ (u ++ (v ++ Z)))[a + i]? = u[i]? := by rw [List.getElem?_append_right (by omega), hX, Nat.add_sub_cancel_left, List.getElem?_append_left hi]
      rw [← hd]; simp only [getElem!_def, List.getElem?_toArray, hq]
    have e1 := gu (i - a) (by omega)
    have e2 := gu (j - a) (by omega)
    rw [show a + (i - a) = i by omega] at e1
    rw [show a + (j - a) = j by omega] at e2
    rw [e1, e2]
    exact asc_get au (by omega) (by omega)
  have hwv : ∀ i j, m ≤ i → i ≤ j → j < b → wt d[i]! ≤ wt d[j]! := fun i j h1 h2 h3 => by
    have gv : ∀ i, i < v.length → d[m + i]! = v[i]! := fun i hi => by
      have hq : (X ++ (u ++ (v ++ Z)))[m + i]? = v[i]? := by
        rw [List.getElem?_append_right (by omega), List.getElem?_append_right (by omega), show m + i - X.length - u.length = i by omega, List.getElem?_append_left hi]
      rw [← hd]; simp only [getElem!_def, List.getElem?_toArray, hq]
    have e1 := gv (i - m) (by omega)
    have e2 := gv (j - m) (by omega)
    rw [show m + (i - m) = i by omega] at e1
    rw [show m + (j - m) = j by omega] at e2
    rw [e1, e2]
    exact asc_get av (by omega) (by omega)
  have HLS := hid (Has.new W 132 #[.func (.func g) #[] lb, .func (.func sf) #[] sb])
  have HH := hid (show HoldsK enc k W blk off d by rw [← hd]; exact hH)
  have HD := hid hd
  have HDS := hid hds
  have HPT := hid (fun s (e : Nat) he h1 h2 h3 h4 h5 f1 f2 => sym_parts (wt := wt) (X := X) (u := u) (v := v) (Z := Z) (a := a) (m := m) (b := b) (s := s) (mid := mid) (e := e) hX hu hv au av hmd he h1 h2 h3 h4 h5 f1 f2)
  have HSA := hid (sym_start (w := fun i => wt d[i]!) ham hmb)
  have HIN := hid (fun (s r c : Nat) (h : SymAt (fun i => wt d[i]!) a m b s r) (hc : s ≤ c) (hr : c < r) => sym_in ham hmb h hc hr)
  have HFD := hid (fun (s : Nat) (h : SymAt (fun i => wt d[i]!) a m b s s) => sym_found ham hmb h hwu hwv)
  have HIH := hid ih
  have HXL := hid hX
  have HNN := hid hN
  have hlo : mid + m - b = symLo a m b := by unfold symLo; split <;> omega
  have hhi : symHi a m b = mid := by unfold symHi; split <;> omega
  have HMD := hid hmd
  have HLO := hid hlo
  have HHI := hid hhi
  clear hH hd hds hwu hwv au av ih hX hu hv hN hsz hlo hhi hmd
  obtain ⟨W1, hW1⟩ : ∃ w, W.alloc (.cells #[.func (.func g) #[] lb, .func (.func sf) #[] sb] 132) = w := ⟨_, rfl⟩
  have hge : W.heap.size < W1.heap.size := by rw [← hW1]; simp
  have HH1 := hid (show HoldsK enc k W1 blk off d by rw [← hW1, alloc_eq_grow]; exact holdsK_grow enc k W _ blk off d hblk HH.out)
  have HL1 := hid (show LessReadsK Tryd.prog g lb enc k (wLt wt) blk off size W1 by rw [← hW1, alloc_eq_grow]; exact hless.grow hblk _)
  have HSP := hid hswap
  clear hless hswap
  have hbk : blk < W1.heap.size := by omega
  have hsl : (mid : Int) + m - b = (symLo a m b : Nat) := by have := HLO.out; omega
  go_enter Tryd.func82, Tryd.ntmps82
  go_wp2
  rw [hW1] at HLS
  have HW1 := hid hW1
  clear hW1
  go_loopw [18, 19] (fun vi vj wr => ∃ (s r : Nat), vi = .int .i64 s ∧ vj = .int .i64 r ∧ SymAt (fun i => wt d[i]!) a m b s r ∧ SWK enc k W1 blk off d wr) (fun vi vj _ => (intOf vj).toNat - (intOf vi).toNat)
  case atStart => exact ⟨symLo a m b, symHi a m b, by first | rfl | (rw [hsl]), by rw [HHI.out], HSA.out, SWK.start HH1.out⟩
  case round =>
    obtain ⟨s, r, rfl, rfl, hsy, hsw⟩ := hrel
    rename World => wr
    have hls := swk_has hsw HLS.out (by omega)
    have c0 := hls.cell 0
    have c1 := hls.cell 1
    have HSY := hid hsy
    have HSW := hid hsw
    have hsr := hsy.sr
    have hrm : r ≤ m := by have := (sym_bounds ham hmb).2.2.1; have := hsy.hi; omega
    clear hls hsy hsw
    by_cases hlt : s < r
    · have hlti : (s : Int) < r := by omega
      obtain ⟨c, hc⟩ : ∃ c, (s + r) / 2 = c := ⟨_, rfl⟩
      have hc2 : ((s : Int) + r) / 2 = c := by omega
      have hic : s ≤ c := by omega
      have hcj : c < r := by omega
      obtain ⟨i1, i2, i3, i4⟩ := HIN.out s r c HSY.out hic hcj
      rw [HMD.out] at i3 i4
      obtain ⟨q, hq⟩ : ∃ q, mid + m - 1 - c = q := ⟨_, rfl⟩
      rw [hq] at i3 i4
      have hq2 : (mid : Int) + m - 1 - c = q := by omega
      have hl := HSW.out.less HL1.out HDS.out q c (by omega) (by omega)
      have HQ := hid hq
      clear hc hq
      cases hlv : wLt wt d[q]! d[c]! with
      | true =>
        rw [hlv] at hl
        have HLV := hid (show wt d[q]! < wt d[c]! from of_decide_eq_true hlv)
        clear hlv
        go_wp2_with (go_at_fn g; refine hl.mono ?_; rintro e w' ⟨rfl, q, rfl⟩)
        go_roundw
        case rel => exact ⟨s, c, rfl, rfl, sym_left HSY.out hic hcj (by rw [HMD.out, HQ.out]; exact HLV.out), HSW.out.drewN _⟩
        case measure => simp [intOf] <;> omega
      | false =>
        rw [hlv] at hl
        have HLV := hid (show wt d[c]! ≤ wt d[q]! from Int.not_lt.1 (of_decide_eq_false hlv))
        clear hlv
        go_wp2_with (go_at_fn g; refine hl.mono ?_; rintro e w' ⟨rfl, q, rfl⟩)
        go_roundw
        case rel => exact ⟨c + 1, r, by go_num, rfl, sym_right HSY.out hic hcj (by rw [HMD.out, HQ.out]; exact Int.not_lt.2 HLV.out), HSW.out.drewN _⟩
        case measure => simp [intOf] <;> omega
    · obtain rfl : s = r := by omega
      have hnlt : ¬ (s : Int) < s := by omega
      obtain ⟨j1, j2, j3, j4, j5, j6, j7⟩ := HFD.out s HSY.out
      rw [HMD.out] at j3 j4 j5 j6 j7
      obtain ⟨e, he⟩ : ∃ e, mid + m - s = e := ⟨_, rfl⟩
      rw [he] at j4 j5 j6 j7
      have he2 : (mid : Int) + m - s = e := by omega
      obtain ⟨L1, L2, L3, pt⟩ := HPT.out s e he j1 j2 j3 j4 j5 (by rw [HD.out]; exact j6) (by rw [HD.out]; exact j7)
      have hdl : (X ++ (u ++ (v ++ Z))).length = size := by rw [← HDS.out, ← HD.out]; simp
      have C1 := hid (fun (w2 : World) (hw : SWK enc k W1 blk off d w2) (h1 : s < m) (h2 : m < e) => rotate_ok enc k hk g lb sf sb blk off d L1 s m e w2 (HDS.out ▸ HSP.out) (hw.holds hbk HH1.out rfl) (hw.lt hbk) h1 h2 (by rw [← HD.out]; exact pt.rot h1 h2) (by rw [HDS.out]; omega))
      have C2 := hid (show ∀ (w2 : World), SWK enc k W1 blk off L1.toArray w2 → a < s → s < mid → Calls Tryd.prog 82 #[.agg #[.func (.func g) #[] lb, .func (.func sf) #[] sb], .int .i64 a, .int .i64 s, .int .i64 mid] w2 fun e w' => e = .returned (.tuple #[]) ∧ SWK enc k w2 blk off L2.toArray w' from fun w2 hw h1 h2 => by
        obtain ⟨u1, v1, Y, rfl, rfl, z1, z2, z3, z4⟩ := pt.c1
        have hl := pt.l1
        rw [hdl] at hl
        have hsz1 : (X ++ (u1 ++ (v1 ++ Y))).toArray.size = d.size := by rw [HDS.out, ← hl]; simp
        exact HIH.out X u1 v1 Y a s mid w2 (by have := HNN.out; omega) HXL.out z1 z2 h1 h2 hl z3 z4 (hw.lessReads HL1.out hbk (by rw [hsz1, HDS.out])) (hw.holds hbk HH1.out hsz1) (hw.lt hbk))
      have C3 := hid (show ∀ (w2 : World), SWK enc k W1 blk off L2.toArray w2 → mid < e → e < b → Calls Tryd.prog 82 #[.agg #[.func (.func g) #[] lb, .func (.func sf) #[] sb], .int .i64 mid, .int .i64 e, .int .i64 b] w2 fun e w' => e = .returned (.tuple #[]) ∧ SWK enc k w2 blk off L3.toArray w' from fun w2 hw h1 h2 => by
        obtain ⟨Y, u2, v2, rfl, rfl, z0, z1, z2, z3, z4⟩ := pt.c2
        have hl := pt.l2
        rw [hdl] at hl
        have hsz1 : (Y ++ (u2 ++ (v2 ++ Z))).toArray.size = d.size := by rw [HDS.out, ← hl]; simp
        exact HIH.out Y u2 v2 Z mid e b w2 (by have := HNN.out; omega) z0 z1 z2 h1 h2 hl z3 z4 (hw.lessReads HL1.out hbk (by rw [hsz1, HDS.out])) (hw.holds hbk HH1.out hsz1) (hw.lt hbk))
      have hz1 : L1.toArray.size = d.size := by rw [HDS.out, ← hdl, ← pt.l1]; simp
      have hz2 : L2.toArray.size = L1.toArray.size := by rw [hz1, HDS.out, ← hdl, ← pt.l2]; simp
      have hz3 : L3.toArray.size = L2.toArray.size := by rw [hz2, hz1, HDS.out, ← hdl, ← pt.l3]; simp
      have HZ := hid (And.intro hz1 (And.intro hz2 hz3))
      have E1 := hid (show ¬ (s < m ∧ m < e) → d = L1.toArray from fun h => by rw [← HD.out, pt.e1 h])
      have E2 := hid pt.e2
      have E3 := hid pt.e3
      have E4 := hid pt.e4
      have HEN := hid he
      clear j6 j7 pt hdl hz1 hz2 hz3 he
      by_cases hB : s < m
      · by_cases hA : a < s
        · by_cases hC : m < e
          · by_cases hD : e < b
            · have q1 : (a : Int) < s := by omega
              have q2 : (s : Int) < m := by omega
              have q3 : (m : Int) < e := by omega
              have q4 : (e : Int) < b := by omega
              have q5 : (s : Int) < mid := by omega
              have q6 : (mid : Int) < e := by omega
              go_wp2_with fail
              refine (C1.out _ HSW.out (by omega) (by omega)).mono ?_
              rintro e1 w2 ⟨rfl, hs1⟩
              have S1 := hid (swk_trans HSW.out hbk hs1 HZ.out.1)
              clear hs1
              have hls1 := swk_has S1.out HLS.out (by omega)
              have d0 := hls1.cell 0
              have d1 := hls1.cell 1
              clear hls1
              go_wp2_with fail
              refine (C2.out _ S1.out (by omega) (by omega)).mono ?_
              rintro e2 w3 ⟨rfl, hs2⟩
              have S2 := hid (swk_trans S1.out hbk hs2 HZ.out.2.1)
              clear hs2
              have hls2 := swk_has S2.out HLS.out (by omega)
              have f0 := hls2.cell 0
              have f1 := hls2.cell 1
              clear hls2
              go_wp2_with fail
              refine (C3.out _ S2.out (by omega) (by omega)).mono ?_
              rintro e3 w4 ⟨rfl, hs3⟩
              have S3 := hid (swk_trans S2.out hbk hs3 HZ.out.2.2)
              clear hs3
              go_wp2
              all_goals
                go_returns
                refine ⟨rfl, swk_back HW1.out hblk ?_⟩
                rw [← E4.out]
                exact S3.out
            · have q1 : (a : Int) < s := by omega
              have q2 : (s : Int) < m := by omega
              have q3 : (m : Int) < e := by omega
              have q4 : ¬ (e : Int) < b := by omega
              have q5 : (s : Int) < mid := by omega
              have q6 : (mid : Int) < e := by omega
              go_wp2_with fail
              refine (C1.out _ HSW.out (by omega) (by omega)).mono ?_
              rintro e1 w2 ⟨rfl, hs1⟩
              have S1 := hid (swk_trans HSW.out hbk hs1 HZ.out.1)
              clear hs1
              have hls1 := swk_has S1.out HLS.out (by omega)
              have d0 := hls1.cell 0
              have d1 := hls1.cell 1
              clear hls1
              go_wp2_with fail
              refine (C2.out _ S1.out (by omega) (by omega)).mono ?_
              rintro e2 w3 ⟨rfl, hs2⟩
              have S2 := hid (swk_trans S1.out hbk hs2 HZ.out.2.1)
              clear hs2
              have S3 := hid (show SWK enc k W1 blk off L3.toArray _ by rw [← E3.out (by omega)]; exact S2.out)
              go_wp2
              all_goals
                go_returns
                refine ⟨rfl, swk_back HW1.out hblk ?_⟩
                rw [← E4.out]
                exact S3.out
          · have hD : e < b := by omega
            have q1 : (a : Int) < s := by omega
            have q2 : (s : Int) < m := by omega
            have q3 : ¬ (m : Int) < e := by omega
            have q4 : (e : Int) < b := by omega
            have q5 : ¬ (s : Int) < mid := by omega
            have q6 : (mid : Int) < e := by omega
            have S1 := hid (show SWK enc k W1 blk off L1.toArray wr by rw [← E1.out (by omega)]; exact HSW.out)
            have S2 := hid (show SWK enc k W1 blk off L2.toArray _ by rw [← E2.out (by omega)]; exact S1.out)
            go_wp2_with fail
            refine (C3.out _ S2.out (by omega) (by omega)).mono ?_
            rintro e3 w4 ⟨rfl, hs3⟩
            have S3 := hid (swk_trans S2.out hbk hs3 HZ.out.2.2)
            clear hs3
            go_wp2
            all_goals
              go_returns
              refine ⟨rfl, swk_back HW1.out hblk ?_⟩
              rw [← E4.out]
              exact S3.out
        · by_cases hC : m < e
          · by_cases hD : e < b
            · have q1 : ¬ (a : Int) < s := by omega
              have q2 : (s : Int) < m := by omega
              have q3 : (m : Int) < e := by omega
              have q4 : (e : Int) < b := by omega
              have q5 : (s : Int) < mid := by omega
              have q6 : (mid : Int) < e := by omega
              go_wp2_with fail
              refine (C1.out _ HSW.out (by omega) (by omega)).mono ?_
              rintro e1 w2 ⟨rfl, hs1⟩
              have S1 := hid (swk_trans HSW.out hbk hs1 HZ.out.1)
              clear hs1
              have S2 := hid (show SWK enc k W1 blk off L2.toArray _ by rw [← E2.out (by omega)]; exact S1.out)
              have hls2 := swk_has S2.out HLS.out (by omega)
              have f0 := hls2.cell 0
              have f1 := hls2.cell 1
              clear hls2
              go_wp2_with fail
              refine (C3.out _ S2.out (by omega) (by omega)).mono ?_
              rintro e3 w4 ⟨rfl, hs3⟩
              have S3 := hid (swk_trans S2.out hbk hs3 HZ.out.2.2)
              clear hs3
              go_wp2
              all_goals
                go_returns
                refine ⟨rfl, swk_back HW1.out hblk ?_⟩
                rw [← E4.out]
                exact S3.out
            · have q1 : ¬ (a : Int) < s := by omega
              have q2 : (s : Int) < m := by omega
              have q3 : (m : Int) < e := by omega
              have q4 : ¬ (e : Int) < b := by omega
              have q5 : (s : Int) < mid := by omega
              have q6 : (mid : Int) < e := by omega
              go_wp2_with fail
              refine (C1.out _ HSW.out (by omega) (by omega)).mono ?_
              rintro e1 w2 ⟨rfl, hs1⟩
              have S1 := hid (swk_trans HSW.out hbk hs1 HZ.out.1)
              clear hs1
              have S2 := hid (show SWK enc k W1 blk off L2.toArray _ by rw [← E2.out (by omega)]; exact S1.out)
              have S3 := hid (show SWK enc k W1 blk off L3.toArray _ by rw [← E3.out (by omega)]; exact S2.out)
              go_wp2
              all_goals
                go_returns
                refine ⟨rfl, swk_back HW1.out hblk ?_⟩
                rw [← E4.out]
                exact S3.out
          · have hD : e < b := by omega
            have q1 : ¬ (a : Int) < s := by omega
            have q2 : (s : Int) < m := by omega
            have q3 : ¬ (m : Int) < e := by omega
            have q4 : (e : Int) < b := by omega
            have q5 : ¬ (s : Int) < mid := by omega
            have q6 : (mid : Int) < e := by omega
            have S1 := hid (show SWK enc k W1 blk off L1.toArray wr by rw [← E1.out (by omega)]; exact HSW.out)
            have S2 := hid (show SWK enc k W1 blk off L2.toArray _ by rw [← E2.out (by omega)]; exact S1.out)
            go_wp2_with fail
            refine (C3.out _ S2.out (by omega) (by omega)).mono ?_
            rintro e3 w4 ⟨rfl, hs3⟩
            have S3 := hid (swk_trans S2.out hbk hs3 HZ.out.2.2)
            clear hs3
            go_wp2
            all_goals
              go_returns
              refine ⟨rfl, swk_back HW1.out hblk ?_⟩
              rw [← E4.out]
              exact S3.out
      · have hA : a < s := by omega
        by_cases hC : m < e
        · by_cases hD : e < b
          · have q1 : (a : Int) < s := by omega
            have q2 : ¬ (s : Int) < m := by omega
            have q3 : (m : Int) < e := by omega
            have q4 : (e : Int) < b := by omega
            have q5 : (s : Int) < mid := by omega
            have q6 : ¬ (mid : Int) < e := by omega
            have S1 := hid (show SWK enc k W1 blk off L1.toArray wr by rw [← E1.out (by omega)]; exact HSW.out)
            go_wp2_with fail
            refine (C2.out _ S1.out (by omega) (by omega)).mono ?_
            rintro e2 w3 ⟨rfl, hs2⟩
            have S2 := hid (swk_trans S1.out hbk hs2 HZ.out.2.1)
            clear hs2
            have S3 := hid (show SWK enc k W1 blk off L3.toArray _ by rw [← E3.out (by omega)]; exact S2.out)
            go_wp2
            all_goals
              go_returns
              refine ⟨rfl, swk_back HW1.out hblk ?_⟩
              rw [← E4.out]
              exact S3.out
          · have q1 : (a : Int) < s := by omega
            have q2 : ¬ (s : Int) < m := by omega
            have q3 : (m : Int) < e := by omega
            have q4 : ¬ (e : Int) < b := by omega
            have q5 : (s : Int) < mid := by omega
            have q6 : ¬ (mid : Int) < e := by omega
            have S1 := hid (show SWK enc k W1 blk off L1.toArray wr by rw [← E1.out (by omega)]; exact HSW.out)
            go_wp2_with fail
            refine (C2.out _ S1.out (by omega) (by omega)).mono ?_
            rintro e2 w3 ⟨rfl, hs2⟩
            have S2 := hid (swk_trans S1.out hbk hs2 HZ.out.2.1)
            clear hs2
            have S3 := hid (show SWK enc k W1 blk off L3.toArray _ by rw [← E3.out (by omega)]; exact S2.out)
            go_wp2
            all_goals
              go_returns
              refine ⟨rfl, swk_back HW1.out hblk ?_⟩
              rw [← E4.out]
              exact S3.out
        · have hD : e < b := by omega
          have q1 : (a : Int) < s := by omega
          have q2 : ¬ (s : Int) < m := by omega
          have q3 : ¬ (m : Int) < e := by omega
          have q4 : (e : Int) < b := by omega
          have q5 : ¬ (s : Int) < mid := by omega
          have q6 : ¬ (mid : Int) < e := by omega
          have S1 := hid (show SWK enc k W1 blk off L1.toArray wr by rw [← E1.out (by omega)]; exact HSW.out)
          have S2 := hid (show SWK enc k W1 blk off L2.toArray _ by rw [← E2.out (by omega)]; exact S1.out)
          have S3 := hid (show SWK enc k W1 blk off L3.toArray _ by rw [← E3.out (by omega)]; exact S2.out)
          go_wp2
          all_goals
            go_returns
            refine ⟨rfl, swk_back HW1.out hblk ?_⟩
            rw [← E4.out]
            exact S3.out
set_option maxHeartbeats 8000000 in
set_option maxRecDepth 100000 in
theorem symG_b (enc : α → List Value) (k : Nat) (hk : ∀ x, (enc x).length = k) (wt : α → Int) (g : Nat) (lb : Array Value) (sf : Nat) (sb : Array Value) (blk off size N : Nat) (X u v Z : List α) (a m b : Nat) (W : World)
    (ih : SymSays enc k wt g lb sf sb blk off size N) (hN : b - a ≤ N + 1) (hX : X.length = a) (hu : a + u.length = m) (hv : m + v.length = b) (ham : a < m) (hmb : m < b) (hn1 : Hid (m ≠ a + 1)) (hn2 : Hid (b ≠ m + 1)) (hsz : (X ++ (u ++ (v ++ Z))).length = size) (au : AscW wt u) (av : AscW wt v)
    (mid : Nat) (hmd : (a + b) / 2 = mid) (hmm : ¬ mid < m)
    (eg : ∀ args w, (callFunc g args).run Tryd.prog w = .ok (.enter g args) w) (hless : LessReadsK Tryd.prog g lb enc k (wLt wt) blk off size W)
    (hswap : SwapSwapsK Tryd.prog sf sb enc k blk off size) (hH : HoldsK enc k W blk off (X ++ (u ++ (v ++ Z))).toArray) (hblk : blk < W.heap.size) (hbig : size < 4611686018427387904) :
    Calls Tryd.prog 82 #[.agg #[.func (.func g) #[] lb, .func (.func sf) #[] sb], .int .i64 a, .int .i64 m, .int .i64 b] W fun e w' => e = .returned (.tuple #[]) ∧ SWK enc k W blk off (X ++ (mergeL (wLt wt) u v ++ Z)).toArray w' := by
  obtain ⟨d, hd⟩ : ∃ d, (X ++ (u ++ (v ++ Z))).toArray = d := ⟨_, rfl⟩
  have hds : d.size = size := by rw [← hd]; simpa using hsz
  have hbs : b ≤ size := by rw [← hsz]; simp only [List.length_append]; omega
  obtain ⟨x0, hx0⟩ : ∃ x : Int, IntKind.i64.wrap ((m : Int) - (a : Int)) = x := ⟨_, rfl⟩
  have hw0 : (x0 == 1) = false := by have := hn1.out; rw [← hx0, IntWalk.i64_in _ (by omega)]; simp; omega
  obtain ⟨x1, hx1⟩ : ∃ x : Int, IntKind.i64.wrap ((b : Int) - (m : Int)) = x := ⟨_, rfl⟩
  have hw1 : (x1 == 1) = false := by have := hn2.out; rw [← hx1, IntWalk.i64_in _ (by omega)]; simp; omega
  have hmid : ((a : Int) + (b : Int)) / 2 = mid := by omega
  have hmidb : mid < b := by omega
  have hamid : a < mid := by have := hn1.out; have := hn2.out; omega
  have hwu : ∀ i j, a ≤ i → i ≤ j → j < m → wt d[i]! ≤ wt d[j]! := fun i j h1 h2 h3 => by
    have gu : ∀ i, i < u.length → d[a + i]! = u[i]! := fun i hi => by
      have hq : (X ++ (u ++ (v ++ Z)))[a + i]? = u[i]? := by rw [List.getElem?_append_right (by omega), hX, Nat.add_sub_cancel_left, List.getElem?_append_left hi]
      rw [← hd]; simp only [getElem!_def, List.getElem?_toArray, hq]
    have e1 := gu (i - a) (by omega)
    have e2 := gu (j - a) (by omega)
    rw [show a + (i - a) = i by omega] at e1
    rw [show a + (j - a) = j by omega] at e2
    rw [e1, e2]
    exact asc_get au (by omega) (by omega)
  have hwv : ∀ i j, m ≤ i → i ≤ j → j < b → wt d[i]! ≤ wt d[j]! := fun i j h1 h2 h3 => by
    have gv : ∀ i, i < v.length → d[m + i]! = v[i]! := fun i hi => by
      have hq : (X ++ (u ++ (v ++ Z)))[m + i]? = v[i]? := by
        rw [List.getElem?_append_right (by omega), List.getElem?_append_right (by omega), show m + i - X.length - u.length = i by omega, List.getElem?_append_left hi]
      rw [← hd]; simp only [getElem!_def, List.getElem?_toArray, hq]
    have e1 := gv (i - m) (by omega)
    have e2 := gv (j - m) (by omega)
    rw [show m + (i - m) = i by omega] at e1
    rw [show m + (j - m) = j by omega] at e2
    rw [e1, e2]
    exact asc_get av (by omega) (by omega)
  have HLS := hid (Has.new W 132 #[.func (.func g) #[] lb, .func (.func sf) #[] sb])
  have HH := hid (show HoldsK enc k W blk off d by rw [← hd]; exact hH)
  have HD := hid hd
  have HDS := hid hds
  have HPT := hid (fun s (e : Nat) he h1 h2 h3 h4 h5 f1 f2 => sym_parts (wt := wt) (X := X) (u := u) (v := v) (Z := Z) (a := a) (m := m) (b := b) (s := s) (mid := mid) (e := e) hX hu hv au av hmd he h1 h2 h3 h4 h5 f1 f2)
  have HSA := hid (sym_start (w := fun i => wt d[i]!) ham hmb)
  have HIN := hid (fun (s r c : Nat) (h : SymAt (fun i => wt d[i]!) a m b s r) (hc : s ≤ c) (hr : c < r) => sym_in ham hmb h hc hr)
  have HFD := hid (fun (s : Nat) (h : SymAt (fun i => wt d[i]!) a m b s s) => sym_found ham hmb h hwu hwv)
  have HIH := hid ih
  have HXL := hid hX
  have HNN := hid hN
  have hlo : symLo a m b = a := by unfold symLo; split <;> omega
  have hhi : symHi a m b = m := by unfold symHi; split <;> omega
  have HMD := hid hmd
  have HLO := hid hlo
  have HHI := hid hhi
  clear hH hd hds hwu hwv au av ih hX hu hv hN hsz hlo hhi hmd
  obtain ⟨W1, hW1⟩ : ∃ w, W.alloc (.cells #[.func (.func g) #[] lb, .func (.func sf) #[] sb] 132) = w := ⟨_, rfl⟩
  have hge : W.heap.size < W1.heap.size := by rw [← hW1]; simp
  have HH1 := hid (show HoldsK enc k W1 blk off d by rw [← hW1, alloc_eq_grow]; exact holdsK_grow enc k W _ blk off d hblk HH.out)
  have HL1 := hid (show LessReadsK Tryd.prog g lb enc k (wLt wt) blk off size W1 by rw [← hW1, alloc_eq_grow]; exact hless.grow hblk _)
  have HSP := hid hswap
  clear hless hswap
  have hbk : blk < W1.heap.size := by omega
  go_enter Tryd.func82, Tryd.ntmps82
  go_wp2
  rw [hW1] at HLS
  have HW1 := hid hW1
  clear hW1
  go_loopw [18, 19] (fun vi vj wr => ∃ (s r : Nat), vi = .int .i64 s ∧ vj = .int .i64 r ∧ SymAt (fun i => wt d[i]!) a m b s r ∧ SWK enc k W1 blk off d wr) (fun vi vj _ => (intOf vj).toNat - (intOf vi).toNat)
  case atStart => exact ⟨symLo a m b, symHi a m b, by rw [HLO.out], by rw [HHI.out], HSA.out, SWK.start HH1.out⟩
  case round =>
    obtain ⟨s, r, rfl, rfl, hsy, hsw⟩ := hrel
    rename World => wr
    have hls := swk_has hsw HLS.out (by omega)
    have c0 := hls.cell 0
    have c1 := hls.cell 1
    have HSY := hid hsy
    have HSW := hid hsw
    have hsr := hsy.sr
    have hrm : r ≤ m := by have := (sym_bounds ham hmb).2.2.1; have := hsy.hi; omega
    clear hls hsy hsw
    by_cases hlt : s < r
    · have hlti : (s : Int) < r := by omega
      obtain ⟨c, hc⟩ : ∃ c, (s + r) / 2 = c := ⟨_, rfl⟩
      have hc2 : ((s : Int) + r) / 2 = c := by omega
      have hic : s ≤ c := by omega
      have hcj : c < r := by omega
      obtain ⟨i1, i2, i3, i4⟩ := HIN.out s r c HSY.out hic hcj
      rw [HMD.out] at i3 i4
      obtain ⟨q, hq⟩ : ∃ q, mid + m - 1 - c = q := ⟨_, rfl⟩
      rw [hq] at i3 i4
      have hq2 : (mid : Int) + m - 1 - c = q := by omega
      have hl := HSW.out.less HL1.out HDS.out q c (by omega) (by omega)
      have HQ := hid hq
      clear hc hq
      cases hlv : wLt wt d[q]! d[c]! with
      | true =>
        rw [hlv] at hl
        have HLV := hid (show wt d[q]! < wt d[c]! from of_decide_eq_true hlv)
        clear hlv
        go_wp2_with (go_at_fn g; refine hl.mono ?_; rintro e w' ⟨rfl, q, rfl⟩)
        go_roundw
        case rel => exact ⟨s, c, rfl, rfl, sym_left HSY.out hic hcj (by rw [HMD.out, HQ.out]; exact HLV.out), HSW.out.drewN _⟩
        case measure => simp [intOf] <;> omega
      | false =>
        rw [hlv] at hl
        have HLV := hid (show wt d[c]! ≤ wt d[q]! from Int.not_lt.1 (of_decide_eq_false hlv))
        clear hlv
        go_wp2_with (go_at_fn g; refine hl.mono ?_; rintro e w' ⟨rfl, q, rfl⟩)
        go_roundw
        case rel => exact ⟨c + 1, r, by go_num, rfl, sym_right HSY.out hic hcj (by rw [HMD.out, HQ.out]; exact Int.not_lt.2 HLV.out), HSW.out.drewN _⟩
        case measure => simp [intOf] <;> omega
    · obtain rfl : s = r := by omega
      have hnlt : ¬ (s : Int) < s := by omega
      obtain ⟨j1, j2, j3, j4, j5, j6, j7⟩ := HFD.out s HSY.out
      rw [HMD.out] at j3 j4 j5 j6 j7
      obtain ⟨e, he⟩ : ∃ e, mid + m - s = e := ⟨_, rfl⟩
      rw [he] at j4 j5 j6 j7
      have he2 : (mid : Int) + m - s = e := by omega
      obtain ⟨L1, L2, L3, pt⟩ := HPT.out s e he j1 j2 j3 j4 j5 (by rw [HD.out]; exact j6) (by rw [HD.out]; exact j7)
      have hdl : (X ++ (u ++ (v ++ Z))).length = size := by rw [← HDS.out, ← HD.out]; simp
      have C1 := hid (fun (w2 : World) (hw : SWK enc k W1 blk off d w2) (h1 : s < m) (h2 : m < e) => rotate_ok enc k hk g lb sf sb blk off d L1 s m e w2 (HDS.out ▸ HSP.out) (hw.holds hbk HH1.out rfl) (hw.lt hbk) h1 h2 (by rw [← HD.out]; exact pt.rot h1 h2) (by rw [HDS.out]; omega))
      have C2 := hid (show ∀ (w2 : World), SWK enc k W1 blk off L1.toArray w2 → a < s → s < mid → Calls Tryd.prog 82 #[.agg #[.func (.func g) #[] lb, .func (.func sf) #[] sb], .int .i64 a, .int .i64 s, .int .i64 mid] w2 fun e w' => e = .returned (.tuple #[]) ∧ SWK enc k w2 blk off L2.toArray w' from fun w2 hw h1 h2 => by
        obtain ⟨u1, v1, Y, rfl, rfl, z1, z2, z3, z4⟩ := pt.c1
        have hl := pt.l1
        rw [hdl] at hl
        have hsz1 : (X ++ (u1 ++ (v1 ++ Y))).toArray.size = d.size := by rw [HDS.out, ← hl]; simp
        exact HIH.out X u1 v1 Y a s mid w2 (by have := HNN.out; omega) HXL.out z1 z2 h1 h2 hl z3 z4 (hw.lessReads HL1.out hbk (by rw [hsz1, HDS.out])) (hw.holds hbk HH1.out hsz1) (hw.lt hbk))
      have C3 := hid (show ∀ (w2 : World), SWK enc k W1 blk off L2.toArray w2 → mid < e → e < b → Calls Tryd.prog 82 #[.agg #[.func (.func g) #[] lb, .func (.func sf) #[] sb], .int .i64 mid, .int .i64 e, .int .i64 b] w2 fun e w' => e = .returned (.tuple #[]) ∧ SWK enc k w2 blk off L3.toArray w' from fun w2 hw h1 h2 => by
        obtain ⟨Y, u2, v2, rfl, rfl, z0, z1, z2, z3, z4⟩ := pt.c2
        have hl := pt.l2
        rw [hdl] at hl
        have hsz1 : (Y ++ (u2 ++ (v2 ++ Z))).toArray.size = d.size := by rw [HDS.out, ← hl]; simp
        exact HIH.out Y u2 v2 Z mid e b w2 (by have := HNN.out; omega) z0 z1 z2 h1 h2 hl z3 z4 (hw.lessReads HL1.out hbk (by rw [hsz1, HDS.out])) (hw.holds hbk HH1.out hsz1) (hw.lt hbk))
      have hz1 : L1.toArray.size = d.size := by rw [HDS.out, ← hdl, ← pt.l1]; simp
      have hz2 : L2.toArray.size = L1.toArray.size := by rw [hz1, HDS.out, ← hdl, ← pt.l2]; simp
      have hz3 : L3.toArray.size = L2.toArray.size := by rw [hz2, hz1, HDS.out, ← hdl, ← pt.l3]; simp
      have HZ := hid (And.intro hz1 (And.intro hz2 hz3))
      have E1 := hid (show ¬ (s < m ∧ m < e) → d = L1.toArray from fun h => by rw [← HD.out, pt.e1 h])
      have E2 := hid pt.e2
      have E3 := hid pt.e3
      have E4 := hid pt.e4
      have HEN := hid he
      clear j6 j7 pt hdl hz1 hz2 hz3 he
      by_cases hB : s < m
      · by_cases hA : a < s
        · by_cases hC : m < e
          · by_cases hD : e < b
            · have q1 : (a : Int) < s := by omega
              have q2 : (s : Int) < m := by omega
              have q3 : (m : Int) < e := by omega
              have q4 : (e : Int) < b := by omega
              have q5 : (s : Int) < mid := by omega
              have q6 : (mid : Int) < e := by omega
              go_wp2_with fail
              refine (C1.out _ HSW.out (by omega) (by omega)).mono ?_
              rintro e1 w2 ⟨rfl, hs1⟩
              have S1 := hid (swk_trans HSW.out hbk hs1 HZ.out.1)
              clear hs1
              have hls1 := swk_has S1.out HLS.out (by omega)
              have d0 := hls1.cell 0
              have d1 := hls1.cell 1
              clear hls1
              go_wp2_with fail
              refine (C2.out _ S1.out (by omega) (by omega)).mono ?_
              rintro e2 w3 ⟨rfl, hs2⟩
              have S2 := hid (swk_trans S1.out hbk hs2 HZ.out.2.1)
              clear hs2
              have hls2 := swk_has S2.out HLS.out (by omega)
              have f0 := hls2.cell 0
              have f1 := hls2.cell 1
              clear hls2
              go_wp2_with fail
              refine (C3.out _ S2.out (by omega) (by omega)).mono ?_
              rintro e3 w4 ⟨rfl, hs3⟩
              have S3 := hid (swk_trans S2.out hbk hs3 HZ.out.2.2)
              clear hs3
              go_wp2
              all_goals
                go_returns
                refine ⟨rfl, swk_back HW1.out hblk ?_⟩
                rw [← E4.out]
                exact S3.out
            · have q1 : (a : Int) < s := by omega
              have q2 : (s : Int) < m := by omega
              have q3 : (m : Int) < e := by omega
              have q4 : ¬ (e : Int) < b := by omega
              have q5 : (s : Int) < mid := by omega
              have q6 : (mid : Int) < e := by omega
              go_wp2_with fail
              refine (C1.out _ HSW.out (by omega) (by omega)).mono ?_
              rintro e1 w2 ⟨rfl, hs1⟩
              have S1 := hid (swk_trans HSW.out hbk hs1 HZ.out.1)
              clear hs1
              have hls1 := swk_has S1.out HLS.out (by omega)
              have d0 := hls1.cell 0
              have d1 := hls1.cell 1
              clear hls1
              go_wp2_with fail
              refine (C2.out _ S1.out (by omega) (by omega)).mono ?_
              rintro e2 w3 ⟨rfl, hs2⟩
              have S2 := hid (swk_trans S1.out hbk hs2 HZ.out.2.1)
              clear hs2
              have S3 := hid (show SWK enc k W1 blk off L3.toArray _ by rw [← E3.out (by omega)]; exact S2.out)
              go_wp2
              all_goals
                go_returns
                refine ⟨rfl, swk_back HW1.out hblk ?_⟩
                rw [← E4.out]
                exact S3.out
          · have hD : e < b := by omega
            have q1 : (a : Int) < s := by omega
            have q2 : (s : Int) < m := by omega
            have q3 : ¬ (m : Int) < e := by omega
            have q4 : (e : Int) < b := by omega
            have q5 : ¬ (s : Int) < mid := by omega
            have q6 : (mid : Int) < e := by omega
            have S1 := hid (show SWK enc k W1 blk off L1.toArray wr by rw [← E1.out (by omega)]; exact HSW.out)
            have S2 := hid (show SWK enc k W1 blk off L2.toArray _ by rw [← E2.out (by omega)]; exact S1.out)
            go_wp2_with fail
            refine (C3.out _ S2.out (by omega) (by omega)).mono ?_
            rintro e3 w4 ⟨rfl, hs3⟩
            have S3 := hid (swk_trans S2.out hbk hs3 HZ.out.2.2)
            clear hs3
            go_wp2
            all_goals
              go_returns
              refine ⟨rfl, swk_back HW1.out hblk ?_⟩
              rw [← E4.out]
              exact S3.out
        · by_cases hC : m < e
          · by_cases hD : e < b
            · have q1 : ¬ (a : Int) < s := by omega
              have q2 : (s : Int) < m := by omega
              have q3 : (m : Int) < e := by omega
              have q4 : (e : Int) < b := by omega
              have q5 : (s : Int) < mid := by omega
              have q6 : (mid : Int) < e := by omega
              go_wp2_with fail
              refine (C1.out _ HSW.out (by omega) (by omega)).mono ?_
              rintro e1 w2 ⟨rfl, hs1⟩
              have S1 := hid (swk_trans HSW.out hbk hs1 HZ.out.1)
              clear hs1
              have S2 := hid (show SWK enc k W1 blk off L2.toArray _ by rw [← E2.out (by omega)]; exact S1.out)
              have hls2 := swk_has S2.out HLS.out (by omega)
              have f0 := hls2.cell 0
              have f1 := hls2.cell 1
              clear hls2
              go_wp2_with fail
              refine (C3.out _ S2.out (by omega) (by omega)).mono ?_
              rintro e3 w4 ⟨rfl, hs3⟩
              have S3 := hid (swk_trans S2.out hbk hs3 HZ.out.2.2)
              clear hs3
              go_wp2
              all_goals
                go_returns
                refine ⟨rfl, swk_back HW1.out hblk ?_⟩
                rw [← E4.out]
                exact S3.out
            · have q1 : ¬ (a : Int) < s := by omega
              have q2 : (s : Int) < m := by omega
              have q3 : (m : Int) < e := by omega
              have q4 : ¬ (e : Int) < b := by omega
              have q5 : (s : Int) < mid := by omega
              have q6 : (mid : Int) < e := by omega
              go_wp2_with fail
              refine (C1.out _ HSW.out (by omega) (by omega)).mono ?_
              rintro e1 w2 ⟨rfl, hs1⟩
              have S1 := hid (swk_trans HSW.out hbk hs1 HZ.out.1)
              clear hs1
              have S2 := hid (show SWK enc k W1 blk off L2.toArray _ by rw [← E2.out (by omega)]; exact S1.out)
              have S3 := hid (show SWK enc k W1 blk off L3.toArray _ by rw [← E3.out (by omega)]; exact S2.out)
              go_wp2
              all_goals
                go_returns
                refine ⟨rfl, swk_back HW1.out hblk ?_⟩
                rw [← E4.out]
                exact S3.out
          · have hD : e < b := by omega
            have q1 : ¬ (a : Int) < s := by omega
            have q2 : (s : Int) < m := by omega
            have q3 : ¬ (m : Int) < e := by omega
            have q4 : (e : Int) < b := by omega
            have q5 : ¬ (s : Int) < mid := by omega
            have q6 : (mid : Int) < e := by omega
            have S1 := hid (show SWK enc k W1 blk off L1.toArray wr by rw [← E1.out (by omega)]; exact HSW.out)
            have S2 := hid (show SWK enc k W1 blk off L2.toArray _ by rw [← E2.out (by omega)]; exact S1.out)
            go_wp2_with fail
            refine (C3.out _ S2.out (by omega) (by omega)).mono ?_
            rintro e3 w4 ⟨rfl, hs3⟩
            have S3 := hid (swk_trans S2.out hbk hs3 HZ.out.2.2)
            clear hs3
            go_wp2
            all_goals
              go_returns
              refine ⟨rfl, swk_back HW1.out hblk ?_⟩
              rw [← E4.out]
              exact S3.out
      · have hA : a < s := by omega
        by_cases hC : m < e
        · by_cases hD : e < b
          · have q1 : (a : Int) < s := by omega
            have q2 : ¬ (s : Int) < m := by omega
            have q3 : (m : Int) < e := by omega
            have q4 : (e : Int) < b := by omega
            have q5 : (s : Int) < mid := by omega
            have q6 : ¬ (mid : Int) < e := by omega
            have S1 := hid (show SWK enc k W1 blk off L1.toArray wr by rw [← E1.out (by omega)]; exact HSW.out)
            go_wp2_with fail
            refine (C2.out _ S1.out (by omega) (by omega)).mono ?_
            rintro e2 w3 ⟨rfl, hs2⟩
            have S2 := hid (swk_trans S1.out hbk hs2 HZ.out.2.1)
            clear hs2
            have S3 := hid (show SWK enc k W1 blk off L3.toArray _ by rw [← E3.out (by omega)]; exact S2.out)
            go_wp2
            all_goals
              go_returns
              refine ⟨rfl, swk_back HW1.out hblk ?_⟩
              rw [← E4.out]
              exact S3.out
          · have q1 : (a : Int) < s := by omega
            have q2 : ¬ (s : Int) < m := by omega
            have q3 : (m : Int) < e := by omega
            have q4 : ¬ (e : Int) < b := by omega
            have q5 : (s : Int) < mid := by omega
            have q6 : ¬ (mid : Int) < e := by omega
            have S1 := hid (show SWK enc k W1 blk off L1.toArray wr by rw [← E1.out (by omega)]; exact HSW.out)
            go_wp2_with fail
            refine (C2.out _ S1.out (by omega) (by omega)).mono ?_
            rintro e2 w3 ⟨rfl, hs2⟩
            have S2 := hid (swk_trans S1.out hbk hs2 HZ.out.2.1)
            clear hs2
            have S3 := hid (show SWK enc k W1 blk off L3.toArray _ by rw [← E3.out (by omega)]; exact S2.out)
            go_wp2
            all_goals
              go_returns
              refine ⟨rfl, swk_back HW1.out hblk ?_⟩
              rw [← E4.out]
              exact S3.out
        · have hD : e < b := by omega
          have q1 : (a : Int) < s := by omega
          have q2 : ¬ (s : Int) < m := by omega
          have q3 : ¬ (m : Int) < e := by omega
          have q4 : (e : Int) < b := by omega
          have q5 : ¬ (s : Int) < mid := by omega
          have q6 : ¬ (mid : Int) < e := by omega
          have S1 := hid (show SWK enc k W1 blk off L1.toArray wr by rw [← E1.out (by omega)]; exact HSW.out)
          have S2 := hid (show SWK enc k W1 blk off L2.toArray _ by rw [← E2.out (by omega)]; exact S1.out)
          have S3 := hid (show SWK enc k W1 blk off L3.toArray _ by rw [← E3.out (by omega)]; exact S2.out)
          go_wp2
          all_goals
            go_returns
            refine ⟨rfl, swk_back HW1.out hblk ?_⟩
            rw [← E4.out]
            exact S3.out
theorem sym_all (enc : α → List Value) (k : Nat) (hk : ∀ x, (enc x).length = k) (wt : α → Int) (g : Nat) (lb : Array Value) (sf : Nat) (sb : Array Value) (blk off size : Nat)
    (eg : ∀ args w, (callFunc g args).run Tryd.prog w = .ok (.enter g args) w) (hswap : SwapSwapsK Tryd.prog sf sb enc k blk off size) (hbig : size < 4611686018427387904) : ∀ N, SymSays enc k wt g lb sf sb blk off size N
  | 0 => fun X u v Z a m b W h0 _ _ _ h1 h2 => by omega
  | N + 1 => fun X u v Z a m b W hN hX hu hv ham hmb hsz au av hL hH hblk => by
    have hds : (X ++ (u ++ (v ++ Z))).toArray.size = size := by simpa using hsz
    by_cases h1 : m = a + 1
    · match u, hu with
      | [x], hu =>
        have := symL_ok enc k hk (wLt wt) g lb sf sb blk off _ X v Z x a m b (hid h1) W eg (by rw [hds]; exact hL) (by rw [hds]; exact hswap) hH hblk rfl hX hv (fun i j hij hj h => by
          have h3 := asc_get av hij hj
          have h4 : wt v[j]! < wt x := of_decide_eq_true h
          exact decide_eq_true (by omega)) (by rw [hds]; exact hbig)
        rw [List.append_assoc] at this
        exact this
      | [], hu => simp at hu; omega
      | x :: y :: r, hu => simp at hu; omega
    · by_cases h2 : b = m + 1
      · match v, hv with
        | [y], hv =>
          have := symRt_ok enc k hk (wLt wt) g lb sf sb blk off _ X u Z y a m b (hid h2) (hid h1) W eg (by rw [hds]; exact hL) (by rw [hds]; exact hswap) hH hblk rfl hX hu ham (fun i j hij hj h => by
            have h3 := asc_get au hij hj
            have h4 : wt y < wt u[i]! := of_decide_eq_true h
            exact decide_eq_true (by omega)) (by rw [hds]; exact hbig)
          rw [List.append_assoc] at this
          exact this
        | [], hv => simp at hv; omega
        | x :: y :: r, hv => simp at hv; omega
      · have ih := sym_all enc k hk wt g lb sf sb blk off size eg hswap hbig N
        by_cases hm : (a + b) / 2 < m
        · exact symG_a enc k hk wt g lb sf sb blk off size N X u v Z a m b W ih hN hX hu hv ham hmb (hid h1) (hid h2) hsz au av _ rfl hm eg hL hswap hH hblk hbig
        · exact symG_b enc k hk wt g lb sf sb blk off size N X u v Z a m b W ih hN hX hu hv ham hmb (hid h1) (hid h2) hsz au av _ rfl hm eg hL hswap hH hblk hbig
end Go.Proofs.YtacgnadhpgkcmaaDoor
/- sort.stable_func at any number of elements of k cells (contract of the function). -/
namespace Go.Proofs.YtacgnadhpgkcmaaDoor
open Go.RowKit Go.Shelf Go.Lib Go.Sort
set_option linter.unusedVariables false
theorem st_mul (B r A : Nat) (hA : A = 2 * B * r) : B * (2 * r) = A ∧ B * (2 * r + 1) = A + B ∧ B * (2 * r + 2) = A + 2 * B := by
  have e : B * (2 * r) = A := by rw [hA, Nat.mul_comm 2 B, Nat.mul_assoc]
  refine ⟨e, ?_, ?_⟩
  · rw [Nat.mul_add, e, Nat.mul_one]
  · rw [Nat.mul_add, e]; omega
theorem st1 {B q r n A : Nat} (hA : A = 2 * B * r) (h : A + 2 * B ≤ n) (hn : n < B * (q + 1)) : 2 * r + 2 ≤ q := by
  obtain ⟨_, _, e⟩ := st_mul B r A hA
  have : 2 * r + 2 < q + 1 := Nat.lt_of_mul_lt_mul_left (a := B) (by omega)
  omega
theorem st2 {B q r n A : Nat} (hA : A = 2 * B * r) (h1 : A + B < n) (h2 : n < A + 2 * B) (h3 : B * q ≤ n) (hn : n < B * (q + 1)) : q = 2 * r + 1 := by
  obtain ⟨_, e1, e2⟩ := st_mul B r A hA
  have k1 : 2 * r + 1 < q + 1 := Nat.lt_of_mul_lt_mul_left (a := B) (by omega)
  have k2 : q < 2 * r + 2 := Nat.lt_of_mul_lt_mul_left (a := B) (by omega)
  omega
theorem st3 {B q r n A : Nat} (hA : A = 2 * B * r) (hB : 0 < B) (h0 : A ≤ n) (h1 : n ≤ A + B) (h3 : B * q ≤ n) (hn : n < B * (q + 1)) : q = 2 * r ∨ q = 2 * r + 1 ∧ B * q = n := by
  obtain ⟨e0, e1, e2⟩ := st_mul B r A hA
  have k1 : 2 * r < q + 1 := Nat.lt_of_mul_lt_mul_left (a := B) (by omega)
  have k2 : q ≤ 2 * r + 1 := Nat.le_of_mul_le_mul_left (c := B) (by omega) hB
  rcases (show q = 2 * r ∨ q = 2 * r + 1 by omega) with h | h
  · exact .inl h
  · refine .inr ⟨h, ?_⟩
    subst h
    omega
variable {α : Type} [Inhabited α]
omit [Inhabited α] in
theorem ins_len (wt : α → Int) (B q : Nat) (l : List α) (h : B * q ≤ l.length) : (insS wt B q l).length = l.length := by
  rw [insS, List.length_append, preS_len wt B q l h, List.length_drop]; omega
omit [Inhabited α] in
theorem blk_len (wt : α → Int) (B q : Nat) (l : List α) (h : B * q ≤ l.length) : (blkS wt B q l).length = l.length := by
  rw [blkS, List.length_append, preS_len wt B q l h, sortW_len, List.length_drop]; omega
set_option maxHeartbeats 8000000 in
set_option maxRecDepth 100000 in
theorem stable_ok (enc : α → List Value) (k : Nat) (hk : ∀ x, (enc x).length = k) (wt : α → Int) (g : Nat) (lb : Array Value) (sf : Nat) (sb : Array Value) (blk off : Nat) (l : List α) (n : Nat) (hn : Hid (l.length = n)) (W : World)
    (eg : ∀ args w, (callFunc g args).run Tryd.prog w = .ok (.enter g args) w) (hless : LessReadsK Tryd.prog g lb enc k (wLt wt) blk off n W) (hswap : SwapSwapsK Tryd.prog sf sb enc k blk off n)
    (hH : HoldsK enc k W blk off l.toArray) (hblk : blk < W.heap.size) (hbig : n < 144115188075855872) :
    Calls Tryd.prog 70 #[.agg #[.func (.func g) #[] lb, .func (.func sf) #[] sb], .int .i64 n] W fun e w' => e = .returned (.tuple #[]) ∧ SWK enc k W blk off (sortW wt l).toArray w' := by
  have hlz : l.toArray.size = n := by have := hn.out; simpa using this
  have HLS := hid (Has.new W 132 #[.func (.func g) #[] lb, .func (.func sf) #[] sb])
  obtain ⟨W1, hW1⟩ : ∃ w, W.alloc (.cells #[.func (.func g) #[] lb, .func (.func sf) #[] sb] 132) = w := ⟨_, rfl⟩
  have hge : W.heap.size < W1.heap.size := by rw [← hW1]; simp
  have HH1 := hid (show HoldsK enc k W1 blk off l.toArray by rw [← hW1, alloc_eq_grow]; exact holdsK_grow enc k W _ blk off _ hblk hH)
  have HL1 := hid (show LessReadsK Tryd.prog g lb enc k (wLt wt) blk off n W1 by rw [← hW1, alloc_eq_grow]; exact hless.grow hblk _)
  have hbk : blk < W1.heap.size := by omega
  have IS := hid (show ∀ (w2 : World) (Q S Z : List α) (a b : Nat), (Q ++ (S ++ Z)).length = n → Q.length = a → a + S.length = b → SWK enc k W1 blk off (Q ++ (S ++ Z)).toArray w2 →
      Calls Tryd.prog 81 #[.agg #[.func (.func g) #[] lb, .func (.func sf) #[] sb], .int .i64 a, .int .i64 b] w2 fun e w' => e = .returned (.tuple #[]) ∧ SWK enc k W1 blk off (Q ++ (sortW wt S ++ Z)).toArray w' from fun w2 Q S Z a b hl ha hb hw => by
    have hs1 : (Q ++ (S ++ Z)).toArray.size = n := by simpa using hl
    have hs2 : (Q ++ (S ++ Z)).toArray.size = l.toArray.size := by rw [hs1, hlz]
    have hc := Any.insertionSort_func_cells_w laysGg26 enc k hk (wLt wt) g lb sf sb blk off a b (Q ++ (S ++ Z)).toArray w2 eg (by rw [hs1]; exact hw.lessReads HL1.out hbk hs1) (by rw [hs1]; exact hswap) (hw.holds hbk HH1.out hs2) (hw.lt hbk) (by omega) (by simp; omega) (by omega)
    subst ha hb
    rw [sort_at] at hc
    refine Calls.mono hc ?_
    rintro e w' ⟨rfl, n1, os1, rfl⟩
    exact ⟨rfl, hw.on hbk n1 _ os1 (by simp; exact sortW_len wt S)⟩)
  have SM := hid (show ∀ (w2 : World) (X u v Z : List α) (a m b : Nat), (X ++ (u ++ (v ++ Z))).length = n → X.length = a → a + u.length = m → m + v.length = b → a < m → m < b → AscW wt u → AscW wt v → SWK enc k W1 blk off (X ++ (u ++ (v ++ Z))).toArray w2 →
      Calls Tryd.prog 82 #[.agg #[.func (.func g) #[] lb, .func (.func sf) #[] sb], .int .i64 a, .int .i64 m, .int .i64 b] w2 fun e w' => e = .returned (.tuple #[]) ∧ SWK enc k W1 blk off (X ++ (mergeL (wLt wt) u v ++ Z)).toArray w' from fun w2 X u v Z a m b hl ha hm hb h1 h2 au av hw => by
    have hs1 : (X ++ (u ++ (v ++ Z))).toArray.size = n := by simpa using hl
    have hs2 : (X ++ (u ++ (v ++ Z))).toArray.size = l.toArray.size := by rw [hs1, hlz]
    refine (sym_all enc k hk wt g lb sf sb blk off n eg hswap (by omega) (b - a) X u v Z a m b w2 (Nat.le_refl _) ha hm hb h1 h2 hl au av (hw.lessReads HL1.out hbk hs1) (hw.holds hbk HH1.out hs2) (hw.lt hbk)).mono ?_
    rintro e w' ⟨rfl, hs⟩
    exact ⟨rfl, swk_trans hw hbk hs (by simp [merge_len]; omega)⟩)
  have hHl := hid (show SWK enc k W1 blk off (insS wt 20 0 l).toArray W1 by
    rw [show insS wt 20 0 l = l by simp [insS, preS]]
    exact SWK.start HH1.out)
  clear hless hswap hH hlz
  go_enter Tryd.func70, Tryd.ntmps70
  go_wp2
  rw [hW1] at HLS
  have HW1 := hid hW1
  clear hW1
  go_loopw [5, 6] (fun va vb wr => ∃ (q a b : Nat), va = .int .i64 a ∧ vb = .int .i64 b ∧ a = 20 * q ∧ b = 20 * q + 20 ∧ 20 * q ≤ n ∧ SWK enc k W1 blk off (insS wt 20 q l).toArray wr) (fun _ vb _ => n + 20 - (intOf vb).toNat)
  case atStart => exact ⟨0, 0, 20, rfl, rfl, rfl, rfl, Nat.zero_le _, hHl.out⟩
  case round =>
    obtain ⟨q, a, b, rfl, rfl, ha, hb, hqn, hsw⟩ := hrel
    rename World => wr
    have hls := swk_has hsw HLS.out (by omega)
    have c0 := hls.cell 0
    have c1 := hls.cell 1
    have HSW := hid hsw
    have HA := hid ha
    have HB := hid hb
    have hab : a ≤ n := by omega
    have hbb : b ≤ n + 20 := by omega
    have HQN := hid hqn
    clear hls hsw ha hb hqn
    by_cases hlt : b ≤ n
    · have hlti : (b : Int) ≤ n := by omega
      obtain ⟨Q, S, Z, e1, e2, e3, e4⟩ := ins_step wt 20 q l (by have := hn.out; have := HB.out; omega)
      have hs := HSW.out
      rw [e1] at hs
      have hl := ins_len wt 20 q l (by have := hn.out; have := HQN.out; omega)
      rw [e1, hn.out] at hl
      have HC := hid (IS.out wr Q S Z a b hl (by rw [e2, HA.out]) (by rw [HA.out, HB.out, e3]) hs)
      have E4 := hid e4
      clear e1 e2 e3 e4 hs hl
      go_wp2_with fail
      refine HC.out.mono ?_
      rintro e w2 ⟨rfl, hs2⟩
      rw [E4.out] at hs2
      have HS2 := hid hs2
      clear hs2
      go_wp2
      go_roundw
      case rel => exact ⟨q + 1, b, b + 20, rfl, by go_num, by have := HB.out; omega, by have := HB.out; omega, by have := HB.out; omega, HS2.out⟩
      case measure => simp [intOf] <;> omega
    · have hlti : ¬ (b : Int) ≤ n := by omega
      obtain ⟨Q, S, e1, e2, e3, e4⟩ := ins_last wt 20 q l (by have := hn.out; have := HQN.out; omega)
      have hs := HSW.out
      rw [e1] at hs
      have hl := ins_len wt 20 q l (by have := hn.out; have := HQN.out; omega)
      rw [e1, hn.out] at hl
      have HC := hid (IS.out wr Q S [] a n hl (by rw [e2, HA.out]) (by rw [e3, hn.out, HA.out]; have := HQN.out; omega) hs)
      have E4 := hid e4
      have HBN := hid (show 20 * q ≤ n ∧ n < 20 * (q + 1) from ⟨HQN.out, by have := HB.out; omega⟩)
      clear e1 e2 e3 e4 hs hl
      go_wp2_with fail
      refine HC.out.mono ?_
      rintro e w2 ⟨rfl, hs2⟩
      rw [E4.out] at hs2
      have HS2 := hid hs2
      clear hs2 hlt hlti hab hbb HA HB HSW HQN E4 HC c0 c1
      go_wp2
      go_loopw [4] (fun vB wq => ∃ (B q : Nat), vB = .int .i64 B ∧ 0 < B ∧ B ≤ 2 * n + 40 ∧ B * q ≤ n ∧ n < B * (q + 1) ∧ SWK enc k W1 blk off (blkS wt B q l).toArray wq) (fun vB _ => n - (intOf vB).toNat)
      case atStart => exact ⟨20, q, rfl, by omega, by omega, HBN.out.1, HBN.out.2, HS2.out⟩
      case round =>
        obtain ⟨B, q, rfl, hB0, hBn, hq1, hq2, hsw⟩ := hrel
        rename World => wq
        have HSW := hid hsw
        have HQ1 := hid hq1
        have HQ2 := hid hq2
        clear hsw hq1 hq2
        by_cases hlt : B < n
        · have hlti : (B : Int) < n := by omega
          go_wp2_with fail
          go_loopw [5, 6] (fun va vb ws => ∃ (r a b : Nat), va = .int .i64 a ∧ vb = .int .i64 b ∧ Hid (a = 2 * B * r) ∧ Hid (b = a + 2 * B) ∧ a ≤ n ∧ SWK enc k W1 blk off (rowS wt B q r l).toArray ws) (fun _ vb _ => n + 2 * B - (intOf vb).toNat)
          case atStart => exact ⟨0, 0, 2 * B, rfl, by go_num, hid rfl, hid (by omega), Nat.zero_le _, by rw [row_first]; exact HSW.out⟩
          case round =>
            obtain ⟨r, a, b, rfl, rfl, HA, HB, han, hsw⟩ := hrel
            rename World => ws
            have hls := swk_has hsw HLS.out (by omega)
            have c0 := hls.cell 0
            have c1 := hls.cell 1
            have HSR := hid hsw
            have hbb : b ≤ n + 2 * B := by have := HB.out; omega
            clear hls hsw
            by_cases hle : b ≤ n
            · have hlei : (b : Int) ≤ n := by omega
              obtain ⟨X, u, v, Z, e1, e2, e3, e4, e5, e6, e7⟩ := row_step wt B q r l (st1 HA.out (by have := HB.out; omega) HQ2.out) (by rw [hn.out]; exact HQ1.out)
              have hs := HSR.out
              have hz := hs
              rw [e1] at hs
              have hl : (X ++ (u ++ (v ++ Z))).length = n := by
                have h5 : (rowS wt B q r l).length = n := by
                  have h6 := preS_len wt (2 * B) r l (by rw [hn.out, ← HA.out]; exact han)
                  have h7 := preS_len wt B (q - 2 * r) (l.drop (2 * B * r)) (by
                    rw [List.length_drop, hn.out, Nat.mul_sub]
                    have := (st_mul B r a HA.out).1
                    have := HQ1.out
                    rw [← HA.out]; omega)
                  rw [rowS, List.length_append, List.length_append, h6, h7, sortW_len, List.length_drop, hn.out, Nat.mul_sub]
                  have h8 := st1 HA.out (by have := HB.out; omega) HQ2.out
                  have h9 := (st_mul B r a HA.out).1
                  have h10 : B * (2 * r) ≤ B * q := Nat.mul_le_mul_left _ (by omega)
                  have := HQ1.out
                  rw [← HA.out]; omega
                rw [← e1]; exact h5
              have HC := SM.out ws X u v Z a (a + B) b hl (by rw [e2, HA.out]) (by rw [e3]) (by rw [e4]; have := HB.out; omega) (by omega) (by have := HB.out; omega) e5 e6 hs
              rw [show ((a + B : Nat) : Int) = (a : Int) + B by omega] at HC
              have HCC := hid HC
              have E7 := hid e7
              clear e1 e2 e3 e4 e5 e6 e7 hs hl HC hz
              go_wp2_with fail
              refine HCC.out.mono ?_
              rintro e w2 ⟨rfl, hs2⟩
              rw [E7.out] at hs2
              have HS2 := hid hs2
              clear hs2
              go_wp2
              go_roundw
              case rel => exact ⟨r + 1, b, b + 2 * B, rfl, by go_num, hid (by rw [Nat.mul_succ, ← HA.out]; exact HB.out), hid rfl, hle, HS2.out⟩
              case measure => simp [intOf] <;> omega
            · have hlei : ¬ (b : Int) ≤ n := by omega
              by_cases hm : a + B < n
              · have hmi : (a : Int) + B < n := by omega
                have hqr := st2 HA.out hm (by have := HB.out; omega) HQ1.out HQ2.out
                obtain ⟨X, u, v, e1, e2, e3, e4, e5, e6, e7⟩ := row_last wt B q r l hqr (by rw [hn.out]; exact HQ1.out)
                have hs := HSR.out
                rw [e1] at hs
                have h11 := (st_mul B r a HA.out).2.1
                rw [← hqr] at h11
                have hl : (X ++ (u ++ (v ++ []))).length = n := by
                  simp only [List.length_append, List.length_nil, e2, e3, e4, hn.out]
                  have := HA.out
                  omega
                have HC := SM.out ws X u v [] a (a + B) n hl (by rw [e2, HA.out]) (by rw [e3]) (by rw [e4, hn.out]; omega) (by omega) hm e5 e6 hs
                rw [show ((a + B : Nat) : Int) = (a : Int) + B by omega] at HC
                have HCC := hid HC
                have E7 := hid e7
                have HR := hid (show 2 * B * r ≤ n ∧ n < 2 * B * (r + 1) from ⟨by rw [← HA.out]; exact han, by rw [Nat.mul_succ, ← HA.out]; have := HB.out; omega⟩)
                clear e1 e2 e3 e4 e5 e6 e7 hs hl HC h11 hqr
                go_wp2_with fail
                refine HCC.out.mono ?_
                rintro e w2 ⟨rfl, hs2⟩
                rw [E7.out] at hs2
                have HS2 := hid hs2
                clear hs2
                go_wp2
                go_roundw
                case rel => exact ⟨2 * B, r, by go_num, by omega, by omega, HR.out.1, HR.out.2, HS2.out⟩
                case measure => simp [intOf] <;> omega
              · have hmi : ¬ (a : Int) + B < n := by omega
                have h12 := row_none wt B q r l (by have := st3 HA.out hB0 han (by omega) HQ1.out HQ2.out; rw [hn.out]; exact this)
                have HS2 := hid (show SWK enc k W1 blk off (blkS wt (2 * B) r l).toArray ws by rw [← h12]; exact HSR.out)
                have HR := hid (show 2 * B * r ≤ n ∧ n < 2 * B * (r + 1) from ⟨by rw [← HA.out]; exact han, by rw [Nat.mul_succ, ← HA.out]; have := HB.out; omega⟩)
                clear h12
                go_wp2
                go_roundw
                case rel => exact ⟨2 * B, r, by go_num, by omega, by omega, HR.out.1, HR.out.2, HS2.out⟩
                case measure => simp [intOf] <;> omega
        · have hlti : ¬ (B : Int) < n := by omega
          have HE := hid (blk_end wt B q l (by rw [hn.out]; exact HQ1.out) (by rw [hn.out]; omega) (by rw [hn.out]; exact HQ2.out))
          go_wp2
          go_returns
          refine ⟨rfl, swk_back HW1.out hblk ?_⟩
          rw [← HE.out]
          exact HSW.out
end Go.Proofs.YtacgnadhpgkcmaaDoor
