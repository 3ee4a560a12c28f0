/- The search (for spans without values). -/
import Derived.Test.YtciaebhkemdilabRvA
namespace Go.Proofs.Ytciaebhkemdilab
open Go.RowKit Go.Conc
set_option linter.unusedVariables false
set_option linter.unusedSimpArgs false
theorem Rising.tail {p : PartR} {L : List PartR} (h : Rising (p :: L)) : Rising L := by
  cases L with
  | nil => trivial
  | cons q L => exact h.2.2
theorem Rising.head {p : PartR} {L : List PartR} (h : Rising (p :: L)) : p.lo < p.hi ∧ p.hi ≤ 4611686018427387904 := by
  induction L generalizing p with
  | nil => exact h
  | cons q L ih =>
    have := ih h.2.2
    exact ⟨h.1, by have := h.2.1; omega⟩
theorem Rising.all {L : List PartR} (h : Rising L) (i : Nat) (hi : i < L.length) : L[i].lo < L[i].hi ∧ L[i].hi ≤ 4611686018427387904 := by
  induction L generalizing i with
  | nil => simp at hi
  | cons p L ih =>
    cases i with
    | zero => exact h.head
    | succ i => exact ih h.tail i (by simpa using hi)
theorem Rising.lt {L : List PartR} (h : Rising L) : ∀ (i j : Nat) (hij : i < j) (hj : j < L.length), L[i].hi ≤ L[j].lo := by
  induction L with
  | nil => intro i j _ hj; simp at hj
  | cons p L ih =>
    intro i j hij hj
    cases j with
    | zero => omega
    | succ j =>
      cases i with
      | zero =>
        cases L with
        | nil => simp at hj
        | cons q L =>
          show p.hi ≤ ((q :: L)[j]'(by simpa using hj)).lo
          cases j with
          | zero => exact h.2.1
          | succ j =>
            have h1 := ih h.tail 0 (j + 1) (by omega) (by simpa using hj)
            have h2 := (h.tail).head.1
            have h3 : (q :: L)[0].hi = q.hi := rfl
            have h4 := h.2.1
            omega
      | succ i => exact ih h.tail i j (by omega) (by simpa using hj)
theorem Rising.mono {L : List PartR} (h : Rising L) (i j : Nat) (hij : i ≤ j) (hj : j < L.length) : L[i].hi ≤ L[j].hi := by
  rcases Nat.lt_or_ge i j with hlt | hge
  · have h1 := h.lt i j hlt hj
    have h2 := (h.all j hj).1
    omega
  · have e : i = j := by omega
    subst e; exact Nat.le_refl _
/-- The index of the first span that ends behind the byte. -/
def fstI (L : List PartR) (a : Int) : Nat := L.findIdx fun p => decide (a < (p.hi : Int))
theorem fst_le (L : List PartR) (a : Int) : fstI L a ≤ L.length := List.findIdx_le_length
theorem fst_before {L : List PartR} {a : Int} {i : Nat} (h : i < fstI L a) : ¬ a < ((L[i]'(Nat.lt_of_lt_of_le h (fst_le L a))).hi : Int) := by
  have := List.not_of_lt_findIdx h
  simpa using this
theorem fst_at {L : List PartR} {a : Int} (h : fstI L a < L.length) : a < ((L[fstI L a]).hi : Int) := by
  have := List.findIdx_getElem (w := h)
  exact of_decide_eq_true this
theorem fst_iff {L : List PartR} (hR : Rising L) (a : Int) {i : Nat} (hi : i < L.length) : decide (a < ((L[i]).hi : Int)) = decide (fstI L a ≤ i) := by
  rw [Bool.eq_iff_iff, decide_eq_true_eq, decide_eq_true_eq]
  constructor
  · intro h
    rcases Nat.lt_or_ge i (fstI L a) with hlt | hge
    · exact absurd h (fst_before hlt)
    · exact hge
  · intro h
    have h1 := fst_at (L := L) (a := a) (by omega)
    have h2 := hR.mono (fstI L a) i h hi
    omega
theorem BlocksAt.below {w w' : World} {bv : Value} {L : List PartR} (h : BlocksAt w bv L) (hb : Bw w w') : BlocksAt w' bv L := by
  rcases h with ⟨h1, h2⟩ | ⟨ob, oc, ib, n, cap, h1, h2, h3, h4, h5, h6, h7, h8⟩
  · exact .inl ⟨h1, h2⟩
  · exact .inr ⟨ob, oc, ib, n, cap, h1, h2, h3, Nat.lt_of_lt_of_le h4 hb.size, (World.cell?_of_block (hb.block ob h4)).trans h5, h6, h7, own_keep h8 fun b hb' => hb.block b (own_lt h8 hb')⟩
/-- What the closure of search tells. -/
def seaB (L : List PartR) (a : Int) : Nat := if fstI L a < L.length then 0 else if L.length = 0 then 0 else 1
def seaI (L : List PartR) (a : Int) : Nat := if fstI L a < L.length then fstI L a else 0
set_option maxRecDepth 100000 in
set_option maxHeartbeats 2000000 in
theorem sea_nil (b1 : Nat) (a : Int) (w : World) (k1 : w.cell? ⟨b1, 0, none⟩ = some (.slice none 0 0)) :
    Calls Try.prog 73 #[.int .i64 a, .pointer (some ⟨b1, 0, none⟩)] w fun e w' => e = .returned (.tuple #[.int .i64 0, .int .i64 0]) ∧ Bw w w' := by
  have hb1 : b1 < w.heap.size := by
    rcases Nat.lt_or_ge b1 w.heap.size with h | h
    · exact h
    · simp [World.cell?, Array.getElem?_eq_none h] at k1
  go_enter Try.func73, Try.ntmps73
  go_wp2_with fail
  refine (searchA _ _ 0 0 (by omega) (Nat.le_refl _) _ (fun h hh => by omega)).mono ?_
  rintro e w2 ⟨rfl, z, hz⟩
  have hb2 : Bw w w2 := by rw [hz]; exact ((Bw.refl w).alloc _).drewN _
  have k2 : w2.cell? ⟨b1, 0, none⟩ = some (.slice none 0 0) := (World.cell?_of_block (hb2.block b1 hb1)).trans k1
  have hb3 : b1 < w2.heap.size := Nat.lt_of_lt_of_le hb1 hb2.size
  clear hz
  go_wp2
  go_returns
  exact ⟨rfl, hb2.alloc _⟩
set_option maxRecDepth 100000 in
set_option maxHeartbeats 4000000 in
theorem sea_some (b1 ob oc ib n cap : Nat) (L : List PartR) (hR : Rising L) (a : Int) (hoc : 1 ≤ oc) (hn : n = L.length) (hn0 : 0 < n) (hn9 : n ≤ 1000000000) (w : World) (k1 : w.cell? ⟨b1, 0, none⟩ = some (.slice (some ⟨ob, 0, none⟩) 1 oc)) (k3 : w.cell? ⟨ob, 0, none⟩ = some (.slice (some ⟨ib, 0, none⟩) n cap))
    (k4 : w.ownsRow 0 111 2 (.slice (some ⟨ib, 0, none⟩) n cap) n (partCells L)) :
    Calls Try.prog 73 #[.int .i64 a, .pointer (some ⟨b1, 0, none⟩)] w fun e w' => e = .returned (.tuple #[.int .i64 (seaB L a : Nat), .int .i64 (seaI L a : Nat)]) ∧ Bw w w' := by
  have hfl := fst_le L a
  have hlast : ∀ W, Bw w W → W.cell? ⟨w.heap.size, 0, none⟩ = some (.int .i64 a) → Calls Try.prog 75 #[.int .i64 0, .pointer (some ⟨b1, 0, none⟩), .pointer (some ⟨w.heap.size, 0, none⟩)] W fun e w' => e = .returned (.bool (decide (fstI L a ≤ n - 1))) ∧ ∃ z, w' = W.drewN z := fun W hb k2 => by
    have := last_any b1 w.heap.size ob oc ib n cap L a hoc hn hn0 hn9 W (hb.cell k1) k2 (hb.cell k3) (hb.own k4)
    rw [fst_iff hR a (by omega)] at this
    exact this
  have heach : ∀ W x1, Bw w W → W.cell? ⟨w.heap.size, 0, none⟩ = some (.int .i64 a) → W.cell? ⟨x1, 0, none⟩ = some (.int .i64 0) → ∀ h, h < n → Calls Try.prog 76 #[.int .i64 h, .pointer (some ⟨b1, 0, none⟩), .pointer (some ⟨x1, 0, none⟩), .pointer (some ⟨w.heap.size, 0, none⟩)] W fun e w' => e = .returned (.bool (decide (fstI L a ≤ h))) ∧ ∃ z, w' = W.drewN z := fun W x1 hb k2 k5 h hh => by
    have := each_any b1 x1 w.heap.size ob oc ib n cap L a hoc hn hn9 h hh W (hb.cell k1) k5 k2 (hb.cell k3) (hb.own k4)
    rw [fst_iff hR a (by omega)] at this
    exact this
  have HLAST := hid hlast
  have HEACH := hid heach
  have K1 := hid k1
  have K3 := hid k3
  have hw0 : Bw w (w.alloc (.cells #[.int .i64 a] 3)) := (Bw.refl w).alloc _
  have ha0 : (w.alloc (.cells #[.int .i64 a] 3)).cell? ⟨w.heap.size, 0, none⟩ = some (.int .i64 a) := (Has.new w 3 #[.int .i64 a]).cell 0
  have HW0 := hid hw0
  have HA0 := hid ha0
  have kb := hw0.cell k1
  clear hlast heach k3 k4 hw0 ha0
  by_cases hf : fstI L a < L.length
  · have e1 : seaB L a = 0 := if_pos hf
    have e2 : seaI L a = fstI L a := if_pos hf
    rw [e1, e2]
    have hsr : ∀ (h : Nat), h < 1 → ∀ z, Calls Try.prog 75 #[.int .i64 h, .pointer (some ⟨b1, 0, none⟩), .pointer (some ⟨w.heap.size, 0, none⟩)] ((w.alloc (.cells #[.int .i64 a] 3)).drewN z) fun e w' => e = .returned (.bool (decide (0 ≤ h))) ∧ ∃ z', w' = (w.alloc (.cells #[.int .i64 a] 3)).drewN z' := fun h hh z => by
      obtain rfl : h = 0 := by omega
      have := HLAST.out ((w.alloc (.cells #[.int .i64 a] 3)).drewN z) (HW0.out.drewN z) (by simp)
      rw [decide_eq_true (show fstI L a ≤ n - 1 by omega)] at this
      exact this.mono fun _ _ ⟨he, z', hz⟩ => ⟨by simpa using he, z + z', by rw [hz]; simp⟩
    have HS := hid (searchA _ _ 1 0 (by omega) (by omega) _ hsr)
    have E1 := hid e1
    have E2 := hid e2
    clear hsr e1 e2
    go_enter Try.func73, Try.ntmps73
    go_wp2_with fail
    refine HS.out.mono ?_
    rintro e w2 ⟨rfl, z, hz⟩
    have hb2 : Bw w w2 := by rw [hz]; exact HW0.out.drewN z
    have hx : Bw w (w2.alloc (.cells #[.int .i64 0] 3)) := hb2.alloc _
    have m1 := hx.cell K1.out
    have m3 := hx.cell K3.out
    have ma : (w2.alloc (.cells #[.int .i64 0] 3)).cell? ⟨w.heap.size, 0, none⟩ = some (.int .i64 a) := by
      have : w2.cell? ⟨w.heap.size, 0, none⟩ = some (.int .i64 a) := by rw [hz]; simp
      exact ((Bw.refl w2).alloc _).cell this
    have mx : (w2.alloc (.cells #[.int .i64 0] 3)).cell? ⟨w2.heap.size, 0, none⟩ = some (.int .i64 0) := (Has.new w2 3 #[.int .i64 0]).cell 0
    have hs2 : ∀ z0 : Nat, Calls Try.prog 74 #[.int .i64 n, .func (.func 76) #[] #[.pointer (some ⟨b1, 0, none⟩), .pointer (some ⟨w2.heap.size, 0, none⟩), .pointer (some ⟨w.heap.size, 0, none⟩)]] ((w2.alloc (.cells #[.int .i64 0] 3)).drewN z0) fun e w' => e = .returned (.int .i64 (fstI L a : Nat)) ∧ ∃ z, w' = ((w2.alloc (.cells #[.int .i64 0] 3)).drewN z0).drewN z := fun z0 => by
      refine searchB _ _ _ n (fstI L a) hn9 (by omega) _ fun h hh z => ?_
      have := HEACH.out (((w2.alloc (.cells #[.int .i64 0] 3)).drewN z0).drewN z) w2.heap.size ((hx.drewN z0).drewN z) (by first | (simp; done) | simpa using ma) (by first | (simp; done) | simpa using mx) h hh
      exact this.mono fun _ _ ⟨he, z', hz⟩ => ⟨he, z + z', by rw [hz]; simp [Nat.add_assoc]⟩
    have HS2 := hid hs2
    have HX := hid hx
    have HN := hid hn
    clear hz hx hs2 hb2 hn
    go_wp2_with fail
    have h1 : (0 : Int) < 1 := by omega
    generalize w2.alloc (.cells #[.int .i64 0] 3) = W at *
    go_quiet ((go_at_call 74; exact Calls.quiet_of (HS2.out _)))
    go_wp2
    go_returns
    exact ⟨rfl, HX.out.drewN nq⟩
  · have e1 : seaB L a = 1 := (if_neg hf).trans (if_neg (by omega))
    have e2 : seaI L a = 0 := if_neg hf
    rw [e1, e2]
    have hsr : ∀ (h : Nat), h < 1 → ∀ z, Calls Try.prog 75 #[.int .i64 h, .pointer (some ⟨b1, 0, none⟩), .pointer (some ⟨w.heap.size, 0, none⟩)] ((w.alloc (.cells #[.int .i64 a] 3)).drewN z) fun e w' => e = .returned (.bool (decide (1 ≤ h))) ∧ ∃ z', w' = (w.alloc (.cells #[.int .i64 a] 3)).drewN z' := fun h hh z => by
      obtain rfl : h = 0 := by omega
      have := HLAST.out ((w.alloc (.cells #[.int .i64 a] 3)).drewN z) (HW0.out.drewN z) (by simp)
      rw [decide_eq_false (show ¬ fstI L a ≤ n - 1 by omega)] at this
      exact this.mono fun _ _ ⟨he, z', hz⟩ => ⟨by simpa using he, z + z', by rw [hz]; simp⟩
    have HS := hid (searchA _ _ 1 1 (by omega) (by omega) _ hsr)
    have E1 := hid e1
    have E2 := hid e2
    clear hsr e1 e2
    go_enter Try.func73, Try.ntmps73
    go_wp2_with fail
    refine HS.out.mono ?_
    rintro e w2 ⟨rfl, z, hz⟩
    have hb2 : Bw w w2 := by rw [hz]; exact HW0.out.drewN z
    have hx : Bw w (w2.alloc (.cells #[.int .i64 1] 3)) := hb2.alloc _
    have m1 := hx.cell K1.out
    have mx : (w2.alloc (.cells #[.int .i64 1] 3)).cell? ⟨w2.heap.size, 0, none⟩ = some (.int .i64 1) := (Has.new w2 3 #[.int .i64 1]).cell 0
    have HX := hid hx
    clear hz hx hb2
    go_wp2
    go_returns
    exact ⟨rfl, HX.out⟩
end Go.Proofs.Ytciaebhkemdilab
