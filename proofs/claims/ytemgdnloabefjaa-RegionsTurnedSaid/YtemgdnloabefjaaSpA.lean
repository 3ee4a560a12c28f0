/- A set in memory, the closures of search, first, Clash, Len (for spans whose values are spans). -/
import Derived.Test.YtemgdnloabefjaaRegD
import Derived.Test.YtemgdnloabefjaaRegE
import Derived.Test.YtemgdnloabefjaaRegF
namespace Go.Proofs.Ytemgdnloabefjaa.Sp
open Go.RowKit Go.Conc Go.Lib
set_option linter.unusedVariables false
def partCell (p : PartR) : List Value := [.int .i64 p.lo, .int .i64 p.hi, .int .i64 p.lo, .int .i64 p.hi]
def partCells (L : List PartR) : List Value := L.flatMap partCell
theorem partCells_len (L : List PartR) : (partCells L).length = L.length * 4 := by
  induction L with
  | nil => rfl
  | cons p L ih =>
    have e : partCells (p :: L) = partCell p ++ partCells L := by simp [partCells]
    rw [e, List.length_append, ih, List.length_cons]
    have : (partCell p).length = 4 := rfl
    omega
theorem partCells_get (L : List PartR) (i : Nat) (h : i < L.length) (j : Nat) (hj : j < 4) : (partCells L)[i * 4 + j]? = (partCell L[i])[j]? := by
  induction L generalizing i with
  | nil => simp at h
  | cons o l ih =>
    have e : partCells (o :: l) = partCell o ++ partCells l := by simp [partCells]
    have e4 : (partCell o).length = 4 := rfl
    rw [e]
    cases i with
    | zero =>
      rw [Nat.zero_mul, Nat.zero_add, List.getElem?_append_left (by omega)]
      rfl
    | succ i =>
      rw [List.getElem?_append_right (by omega), show (i + 1) * 4 + j - (partCell o).length = i * 4 + j by omega]
      exact ih i (by simpa using h)
/-- The blocks of a set: none, or one. -/
def BlocksAt (w : World) (bv : Value) (L : List PartR) : Prop :=
  (bv = .slice none 0 0 ∧ L = []) ∨
  ∃ ob oc ib n cap, bv = .slice (some ⟨ob, 0, none⟩) 1 oc ∧ 1 ≤ oc ∧ oc ≤ maxLen ∧ ob < w.heap.size ∧ w.cell? ⟨ob, 0, none⟩ = some (.slice (some ⟨ib, 0, none⟩) n cap) ∧ n = L.length ∧ 0 < n ∧ w.ownsRow 0 97 4 (.slice (some ⟨ib, 0, none⟩) n cap) n (partCells L)
set_option maxRecDepth 100000 in
theorem list_any (g : Nat) (bv : Value) (w : World) (h : w.cell? ⟨g, 0, none⟩ = some bv) :
    Calls Try.prog 58 #[.pointer (some ⟨g, 0, none⟩)] w fun e w' => e = .returned bv ∧ w = w' := by
  go_enter Try.func58, Try.ntmps58
  go_wp2
  go_ret
  exact ⟨rfl, rfl⟩
set_option maxRecDepth 100000 in
set_option maxHeartbeats 1000000 in
theorem searchA (c1 c2 : Value) (n r : Nat) (hn : n ≤ 1000000000) (hr : r ≤ n) (w : World)
    (hf : ∀ h, h < n → ∀ z, Calls Try.prog 94 #[.int .i64 h, c1, c2] (w.drewN z) fun e w' => e = .returned (.bool (decide (r ≤ h))) ∧ ∃ z', w' = w.drewN z') :
    Calls Try.prog 85 #[.int .i64 n, .func (.func 94) #[] #[c1, c2]] w fun e w' => e = .returned (.int .i64 r) ∧ ∃ z, w' = w.drewN z := by
  have HF := hid hf
  clear hf
  go_enter Try.func85, Try.ntmps85
  go_wp2
  go_loopw [5, 6] (fun i j wr => ∃ a b : Nat, a ≤ r ∧ r ≤ b ∧ b ≤ n ∧ i = .int .i64 a ∧ j = .int .i64 b ∧ ∃ z, wr = w.drewN z) (fun i j _ => (intOf j).toNat - (intOf i).toNat)
  case atStart => exact ⟨0, n, Nat.zero_le _, hr, Nat.le_refl _, rfl, rfl, 0, rfl⟩
  case round =>
    obtain ⟨a, b, ha, hb, hbn, rfl, rfl, z, rfl⟩ := hrel
    by_cases hlt : a < b
    · obtain ⟨m, hm⟩ : ∃ m, (a + b) / 2 = m := ⟨_, rfl⟩
      have hm2 : ((a : Int) + b) / 2 = m := by omega
      have hma : a ≤ m := by omega
      have hmb : m < b := by omega
      have HM := hid hm
      have hc := HF.out m (by omega) z
      have HC := hid hc
      clear hm hc
      by_cases hrm : r ≤ m
      · have HR := hid (show decide (r ≤ m) = true from decide_eq_true hrm)
        go_wp2_with fail
        refine HC.out.mono ?_
        rintro e w2 ⟨rfl, z2, rfl⟩
        rw [HR.out]
        go_wp2
        go_roundw
        case rel => exact ⟨a, m, ha, hrm, by omega, rfl, rfl, z2, rfl⟩
        case measure => simp [intOf]; omega
      · have HR := hid (show decide (r ≤ m) = false from decide_eq_false hrm)
        go_wp2_with fail
        refine HC.out.mono ?_
        rintro e w2 ⟨rfl, z2, rfl⟩
        rw [HR.out]
        go_wp2
        go_roundw
        case rel => exact ⟨m + 1, b, by omega, hb, hbn, by go_num, rfl, z2, rfl⟩
        case measure => simp [intOf]; omega
    · have hab : a = r := by omega
      subst hab
      go_wp2
      go_returns
      exact ⟨rfl, z, rfl⟩
set_option maxRecDepth 100000 in
set_option maxHeartbeats 1000000 in
theorem searchB (c1 c2 c3 : Value) (n r : Nat) (hn : n ≤ 1000000000) (hr : r ≤ n) (w : World)
    (hf : ∀ h, h < n → ∀ z, Calls Try.prog 95 #[.int .i64 h, c1, c2, c3] (w.drewN z) fun e w' => e = .returned (.bool (decide (r ≤ h))) ∧ ∃ z', w' = w.drewN z') :
    Calls Try.prog 85 #[.int .i64 n, .func (.func 95) #[] #[c1, c2, c3]] w fun e w' => e = .returned (.int .i64 r) ∧ ∃ z, w' = w.drewN z := by
  have HF := hid hf
  clear hf
  go_enter Try.func85, Try.ntmps85
  go_wp2
  go_loopw [5, 6] (fun i j wr => ∃ a b : Nat, a ≤ r ∧ r ≤ b ∧ b ≤ n ∧ i = .int .i64 a ∧ j = .int .i64 b ∧ ∃ z, wr = w.drewN z) (fun i j _ => (intOf j).toNat - (intOf i).toNat)
  case atStart => exact ⟨0, n, Nat.zero_le _, hr, Nat.le_refl _, rfl, rfl, 0, rfl⟩
  case round =>
    obtain ⟨a, b, ha, hb, hbn, rfl, rfl, z, rfl⟩ := hrel
    by_cases hlt : a < b
    · obtain ⟨m, hm⟩ : ∃ m, (a + b) / 2 = m := ⟨_, rfl⟩
      have hm2 : ((a : Int) + b) / 2 = m := by omega
      have hma : a ≤ m := by omega
      have hmb : m < b := by omega
      have HM := hid hm
      have hc := HF.out m (by omega) z
      have HC := hid hc
      clear hm hc
      by_cases hrm : r ≤ m
      · have HR := hid (show decide (r ≤ m) = true from decide_eq_true hrm)
        go_wp2_with fail
        refine HC.out.mono ?_
        rintro e w2 ⟨rfl, z2, rfl⟩
        rw [HR.out]
        go_wp2
        go_roundw
        case rel => exact ⟨a, m, ha, hrm, by omega, rfl, rfl, z2, rfl⟩
        case measure => simp [intOf]; omega
      · have HR := hid (show decide (r ≤ m) = false from decide_eq_false hrm)
        go_wp2_with fail
        refine HC.out.mono ?_
        rintro e w2 ⟨rfl, z2, rfl⟩
        rw [HR.out]
        go_wp2
        go_roundw
        case rel => exact ⟨m + 1, b, by omega, hb, hbn, by go_num, rfl, z2, rfl⟩
        case measure => simp [intOf]; omega
    · have hab : a = r := by omega
      subst hab
      go_wp2
      go_returns
      exact ⟨rfl, z, rfl⟩
theorem part_cells {w : World} {ib n cap : Nat} {L : List PartR} (h : w.ownsRow 0 97 4 (.slice (some ⟨ib, 0, none⟩) n cap) n (partCells L)) (hn : n = L.length) {i : Nat} (hi : i < n) :
    w.cell? ⟨ib, i * 4, none⟩ = some (.int .i64 ((L[i]'(by omega)).lo : Nat)) ∧ w.cell? ⟨ib, i * 4 + 1, none⟩ = some (.int .i64 ((L[i]'(by omega)).hi : Nat)) ∧ w.cell? ⟨ib, i * 4 + 2, none⟩ = some (.int .i64 ((L[i]'(by omega)).lo : Nat)) ∧ w.cell? ⟨ib, i * 4 + 3, none⟩ = some (.int .i64 ((L[i]'(by omega)).hi : Nat)) := by
  have hc := h.cells (g := ib) rfl
  have key : ∀ j, j < 4 → ∀ u, (partCell (L[i]'(by omega)))[j]? = some u → w.cell? ⟨ib, i * 4 + j, none⟩ = some u := fun j hj u hu => by
    have := hc (i * 4 + j) u (by rw [partCells_get L i (by omega) j hj, hu])
    have ea : (Addr.add ⟨ib, 0, none⟩ (i * 4 + j)) = ⟨ib, i * 4 + j, none⟩ := by
      unfold Addr.add
      by_cases hz : i * 4 + j = 0
      · simp [hz]
      · simp; omega
    rwa [ea] at this
  exact ⟨by simpa using key 0 (by omega) _ rfl, key 1 (by omega) _ rfl, key 2 (by omega) _ rfl, key 3 (by omega) _ rfl⟩
set_option maxRecDepth 100000 in
set_option maxHeartbeats 1000000 in
theorem last_any (b1 a1 ob oc ib n cap : Nat) (L : List PartR) (at1 : Int) (hoc : 1 ≤ oc) (hn : n = L.length) (hn0 : 0 < n) (hn9 : n ≤ 1000000000) (w : World) (k1 : w.cell? ⟨b1, 0, none⟩ = some (.slice (some ⟨ob, 0, none⟩) 1 oc)) (k2 : w.cell? ⟨a1, 0, none⟩ = some (.int .i64 at1)) (k3 : w.cell? ⟨ob, 0, none⟩ = some (.slice (some ⟨ib, 0, none⟩) n cap))
    (k4 : w.ownsRow 0 97 4 (.slice (some ⟨ib, 0, none⟩) n cap) n (partCells L)) :
    Calls Try.prog 94 #[.int .i64 0, .pointer (some ⟨b1, 0, none⟩), .pointer (some ⟨a1, 0, none⟩)] w fun e w' => e = .returned (.bool (decide (at1 < ((L[n - 1]'(by omega)).hi : Nat)))) ∧ ∃ z, w' = w.drewN z := by
  have c1 := (part_cells k4 hn (i := n - 1) (by omega)).2.1
  generalize (L[n - 1]'(by omega)).hi = hh at *
  obtain ⟨m, rfl⟩ : ∃ m, n = m + 1 := ⟨n - 1, by omega⟩
  rw [Nat.add_sub_cancel] at c1
  clear k4 hn hn0
  go_enter Try.func94, Try.ntmps94
  go_wp2_with fail
  have em : ((m + 1 : Nat) : Int) - 1 = m := by omega
  go_quiet (fail)
  go_wp2
  go_returns
  exact ⟨by simp, nq, rfl⟩
set_option maxRecDepth 100000 in
set_option maxHeartbeats 1000000 in
theorem each_any (b1 x1 a1 ob oc ib n cap : Nat) (L : List PartR) (at1 : Int) (hoc : 1 ≤ oc) (hn : n = L.length) (hn9 : n ≤ 1000000000) (h : Nat) (hh : h < n) (w : World) (k1 : w.cell? ⟨b1, 0, none⟩ = some (.slice (some ⟨ob, 0, none⟩) 1 oc)) (k5 : w.cell? ⟨x1, 0, none⟩ = some (.int .i64 0)) (k2 : w.cell? ⟨a1, 0, none⟩ = some (.int .i64 at1)) (k3 : w.cell? ⟨ob, 0, none⟩ = some (.slice (some ⟨ib, 0, none⟩) n cap))
    (k4 : w.ownsRow 0 97 4 (.slice (some ⟨ib, 0, none⟩) n cap) n (partCells L)) :
    Calls Try.prog 95 #[.int .i64 h, .pointer (some ⟨b1, 0, none⟩), .pointer (some ⟨x1, 0, none⟩), .pointer (some ⟨a1, 0, none⟩)] w fun e w' => e = .returned (.bool (decide (at1 < ((L[h]'(by omega)).hi : Nat)))) ∧ ∃ z, w' = w.drewN z := by
  have c1 := (part_cells k4 hn hh).2.1
  generalize (L[h]'(by omega)).hi = hi at *
  clear k4 hn
  go_enter Try.func95, Try.ntmps95
  go_wp2_with fail
  go_quiet (fail)
  go_wp2
  go_returns
  exact ⟨rfl, nq, rfl⟩

theorem BlocksAt.below {w w' : World} {bv : Value} {L : List PartR} (h : BlocksAt w bv L) (hb : Bw w w') : BlocksAt w' bv L := by
  rcases h with ⟨h1, h2⟩ | ⟨ob, oc, ib, n, cap, h1, h2, h3, h4, h5, h6, h7, h8⟩
  · exact .inl ⟨h1, h2⟩
  · exact .inr ⟨ob, oc, ib, n, cap, h1, h2, h3, Nat.lt_of_lt_of_le h4 hb.size, (World.cell?_of_block (hb.block ob h4)).trans h5, h6, h7, own_keep h8 fun b hb' => hb.block b (own_lt h8 hb')⟩
set_option maxRecDepth 100000 in
set_option maxHeartbeats 2000000 in
theorem sea_nil (b1 : Nat) (a : Int) (w : World) (k1 : w.cell? ⟨b1, 0, none⟩ = some (.slice none 0 0)) :
    Calls Try.prog 93 #[.int .i64 a, .pointer (some ⟨b1, 0, none⟩)] w fun e w' => e = .returned (.tuple #[.int .i64 0, .int .i64 0]) ∧ Bw w w' := by
  have hb1 : b1 < w.heap.size := by
    rcases Nat.lt_or_ge b1 w.heap.size with h | h
    · exact h
    · simp [World.cell?, Array.getElem?_eq_none h] at k1
  go_enter Try.func93, Try.ntmps93
  go_wp2_with fail
  refine (searchA _ _ 0 0 (by omega) (Nat.le_refl _) _ (fun h hh => by omega)).mono ?_
  rintro e w2 ⟨rfl, z, hz⟩
  have hb2 : Bw w w2 := by rw [hz]; exact ((Bw.refl w).alloc _).drewN _
  have k2 : w2.cell? ⟨b1, 0, none⟩ = some (.slice none 0 0) := (World.cell?_of_block (hb2.block b1 hb1)).trans k1
  have hb3 : b1 < w2.heap.size := Nat.lt_of_lt_of_le hb1 hb2.size
  clear hz
  go_wp2
  go_returns
  exact ⟨rfl, hb2.alloc _⟩
set_option maxRecDepth 100000 in
set_option maxHeartbeats 4000000 in
theorem sea_some (b1 ob oc ib n cap : Nat) (L : List PartR) (hR : Rising L) (a : Int) (hoc : 1 ≤ oc) (hn : n = L.length) (hn0 : 0 < n) (hn9 : n ≤ 1000000000) (w : World) (k1 : w.cell? ⟨b1, 0, none⟩ = some (.slice (some ⟨ob, 0, none⟩) 1 oc)) (k3 : w.cell? ⟨ob, 0, none⟩ = some (.slice (some ⟨ib, 0, none⟩) n cap))
    (k4 : w.ownsRow 0 97 4 (.slice (some ⟨ib, 0, none⟩) n cap) n (partCells L)) :
    Calls Try.prog 93 #[.int .i64 a, .pointer (some ⟨b1, 0, none⟩)] w fun e w' => e = .returned (.tuple #[.int .i64 (seaB L a : Nat), .int .i64 (seaI L a : Nat)]) ∧ Bw w w' := by
  have hfl := fst_le L a
  have hlast : ∀ W, Bw w W → W.cell? ⟨w.heap.size, 0, none⟩ = some (.int .i64 a) → Calls Try.prog 94 #[.int .i64 0, .pointer (some ⟨b1, 0, none⟩), .pointer (some ⟨w.heap.size, 0, none⟩)] W fun e w' => e = .returned (.bool (decide (fstI L a ≤ n - 1))) ∧ ∃ z, w' = W.drewN z := fun W hb k2 => by
    have := last_any b1 w.heap.size ob oc ib n cap L a hoc hn hn0 hn9 W (hb.cell k1) k2 (hb.cell k3) (hb.own k4)
    rw [fst_iff hR a (by omega)] at this
    exact this
  have heach : ∀ W x1, Bw w W → W.cell? ⟨w.heap.size, 0, none⟩ = some (.int .i64 a) → W.cell? ⟨x1, 0, none⟩ = some (.int .i64 0) → ∀ h, h < n → Calls Try.prog 95 #[.int .i64 h, .pointer (some ⟨b1, 0, none⟩), .pointer (some ⟨x1, 0, none⟩), .pointer (some ⟨w.heap.size, 0, none⟩)] W fun e w' => e = .returned (.bool (decide (fstI L a ≤ h))) ∧ ∃ z, w' = W.drewN z := fun W x1 hb k2 k5 h hh => by
    have := each_any b1 x1 w.heap.size ob oc ib n cap L a hoc hn hn9 h hh W (hb.cell k1) k5 k2 (hb.cell k3) (hb.own k4)
    rw [fst_iff hR a (by omega)] at this
    exact this
  have HLAST := hid hlast
  have HEACH := hid heach
  have K1 := hid k1
  have K3 := hid k3
  have hw0 : Bw w (w.alloc (.cells #[.int .i64 a] 3)) := (Bw.refl w).alloc _
  have ha0 : (w.alloc (.cells #[.int .i64 a] 3)).cell? ⟨w.heap.size, 0, none⟩ = some (.int .i64 a) := (Has.new w 3 #[.int .i64 a]).cell 0
  have HW0 := hid hw0
  have HA0 := hid ha0
  have kb := hw0.cell k1
  clear hlast heach k3 k4 hw0 ha0
  by_cases hf : fstI L a < L.length
  · have e1 : seaB L a = 0 := if_pos hf
    have e2 : seaI L a = fstI L a := if_pos hf
    rw [e1, e2]
    have hsr : ∀ (h : Nat), h < 1 → ∀ z, Calls Try.prog 94 #[.int .i64 h, .pointer (some ⟨b1, 0, none⟩), .pointer (some ⟨w.heap.size, 0, none⟩)] ((w.alloc (.cells #[.int .i64 a] 3)).drewN z) fun e w' => e = .returned (.bool (decide (0 ≤ h))) ∧ ∃ z', w' = (w.alloc (.cells #[.int .i64 a] 3)).drewN z' := fun h hh z => by
      obtain rfl : h = 0 := by omega
      have := HLAST.out ((w.alloc (.cells #[.int .i64 a] 3)).drewN z) (HW0.out.drewN z) (by simp)
      rw [decide_eq_true (show fstI L a ≤ n - 1 by omega)] at this
      exact this.mono fun _ _ ⟨he, z', hz⟩ => ⟨by simpa using he, z + z', by rw [hz]; simp⟩
    have HS := hid (searchA _ _ 1 0 (by omega) (by omega) _ hsr)
    have E1 := hid e1
    have E2 := hid e2
    clear hsr e1 e2
    go_enter Try.func93, Try.ntmps93
    go_wp2_with fail
    refine HS.out.mono ?_
    rintro e w2 ⟨rfl, z, hz⟩
    have hb2 : Bw w w2 := by rw [hz]; exact HW0.out.drewN z
    have hx : Bw w (w2.alloc (.cells #[.int .i64 0] 3)) := hb2.alloc _
    have m1 := hx.cell K1.out
    have m3 := hx.cell K3.out
    have ma : (w2.alloc (.cells #[.int .i64 0] 3)).cell? ⟨w.heap.size, 0, none⟩ = some (.int .i64 a) := by
      have : w2.cell? ⟨w.heap.size, 0, none⟩ = some (.int .i64 a) := by rw [hz]; simp
      exact ((Bw.refl w2).alloc _).cell this
    have mx : (w2.alloc (.cells #[.int .i64 0] 3)).cell? ⟨w2.heap.size, 0, none⟩ = some (.int .i64 0) := (Has.new w2 3 #[.int .i64 0]).cell 0
    have hs2 : ∀ z0 : Nat, Calls Try.prog 85 #[.int .i64 n, .func (.func 95) #[] #[.pointer (some ⟨b1, 0, none⟩), .pointer (some ⟨w2.heap.size, 0, none⟩), .pointer (some ⟨w.heap.size, 0, none⟩)]] ((w2.alloc (.cells #[.int .i64 0] 3)).drewN z0) fun e w' => e = .returned (.int .i64 (fstI L a : Nat)) ∧ ∃ z, w' = ((w2.alloc (.cells #[.int .i64 0] 3)).drewN z0).drewN z := fun z0 => by
      refine searchB _ _ _ n (fstI L a) hn9 (by omega) _ fun h hh z => ?_
      have := HEACH.out (((w2.alloc (.cells #[.int .i64 0] 3)).drewN z0).drewN z) w2.heap.size ((hx.drewN z0).drewN z) (by first | (simp; done) | simpa using ma) (by first | (simp; done) | simpa using mx) h hh
      exact this.mono fun _ _ ⟨he, z', hz⟩ => ⟨he, z + z', by rw [hz]; simp [Nat.add_assoc]⟩
    have HS2 := hid hs2
    have HX := hid hx
    have HN := hid hn
    clear hz hx hs2 hb2 hn
    go_wp2_with fail
    have h1 : (0 : Int) < 1 := by omega
    generalize w2.alloc (.cells #[.int .i64 0] 3) = W at *
    go_quiet ((go_at_call 85; exact Calls.quiet_of (HS2.out _)))
    go_wp2
    go_returns
    exact ⟨rfl, HX.out.drewN nq⟩
  · have e1 : seaB L a = 1 := (if_neg hf).trans (if_neg (by omega))
    have e2 : seaI L a = 0 := if_neg hf
    rw [e1, e2]
    have hsr : ∀ (h : Nat), h < 1 → ∀ z, Calls Try.prog 94 #[.int .i64 h, .pointer (some ⟨b1, 0, none⟩), .pointer (some ⟨w.heap.size, 0, none⟩)] ((w.alloc (.cells #[.int .i64 a] 3)).drewN z) fun e w' => e = .returned (.bool (decide (1 ≤ h))) ∧ ∃ z', w' = (w.alloc (.cells #[.int .i64 a] 3)).drewN z' := fun h hh z => by
      obtain rfl : h = 0 := by omega
      have := HLAST.out ((w.alloc (.cells #[.int .i64 a] 3)).drewN z) (HW0.out.drewN z) (by simp)
      rw [decide_eq_false (show ¬ fstI L a ≤ n - 1 by omega)] at this
      exact this.mono fun _ _ ⟨he, z', hz⟩ => ⟨by simpa using he, z + z', by rw [hz]; simp⟩
    have HS := hid (searchA _ _ 1 1 (by omega) (by omega) _ hsr)
    have E1 := hid e1
    have E2 := hid e2
    clear hsr e1 e2
    go_enter Try.func93, Try.ntmps93
    go_wp2_with fail
    refine HS.out.mono ?_
    rintro e w2 ⟨rfl, z, hz⟩
    have hb2 : Bw w w2 := by rw [hz]; exact HW0.out.drewN z
    have hx : Bw w (w2.alloc (.cells #[.int .i64 1] 3)) := hb2.alloc _
    have m1 := hx.cell K1.out
    have mx : (w2.alloc (.cells #[.int .i64 1] 3)).cell? ⟨w2.heap.size, 0, none⟩ = some (.int .i64 1) := (Has.new w2 3 #[.int .i64 1]).cell 0
    have HX := hid hx
    clear hz hx hb2
    go_wp2
    go_returns
    exact ⟨rfl, HX.out⟩

set_option maxRecDepth 100000 in
theorem search_ret (p : Option Addr) (n c : Nat) (w : World) :
    Calls Try.prog 77 #[.slice p n c] w fun e w' => ∃ b1 : Nat, e = .returned (.func (.func 93) #[] #[.pointer (some ⟨b1, 0, none⟩)]) ∧ w'.cell? ⟨b1, 0, none⟩ = some (.slice p n c) ∧ Bw w w' := by
  have h1 : (w.alloc (.cells #[.slice p n c] 92)).cell? ⟨w.heap.size, 0, none⟩ = some (.slice p n c) := (Has.new w _ #[.slice p n c]).cell 0
  have h2 : Bw w (w.alloc (.cells #[.slice p n c] 92)) := (Bw.refl w).alloc _
  have H1 := hid h1
  have H2 := hid h2
  clear h1 h2
  go_enter Try.func77, Try.ntmps77
  go_wp2
  go_ret
  exact ⟨w.heap.size, rfl, H1.out, H2.out⟩
/-- A set in memory: its block g, and what is in it. -/
def SetAt (w : World) (g : Nat) (L : List PartR) : Prop := ∃ bv, w.cell? ⟨g, 0, none⟩ = some bv ∧ BlocksAt w bv L
theorem BlocksAt.bw {w w' : World} {bv : Value} {L : List PartR} (h : BlocksAt w bv L) (hb : Bw w w') : BlocksAt w' bv L := by
  rcases h with h | ⟨ob, oc, ib, n, cap, e, h1, h2, h3, h4, h5, h6, h7⟩
  · exact .inl h
  · exact .inr ⟨ob, oc, ib, n, cap, e, h1, h2, Nat.lt_of_lt_of_le h3 hb.size, hb.cell h4, h5, h6, hb.own h7⟩
theorem SetAt.bw {w w' : World} {g : Nat} {L : List PartR} (h : SetAt w g L) (hb : Bw w w') : SetAt w' g L := by
  obtain ⟨bv, h1, h2⟩ := h
  exact ⟨bv, hb.cell h1, h2.bw hb⟩
/-- A block of three cells, each stored anew. -/
def put4 (w2 : World) (g : Nat) (x y z u : Value) : World := (((w2.setCell ⟨g, 0, none⟩ x).setCell ⟨g, 1, none⟩ y).setCell ⟨g, 2, none⟩ z).setCell ⟨g, 3, none⟩ u
theorem has_put4 {w2 : World} {g : Nat} {t : TypeId} {a b c d : Value} (h : Has w2 g t #[a, b, c, d]) (x y z u : Value) :
    (put4 w2 g x y z u).cell? ⟨g, 0, none⟩ = some x ∧ (put4 w2 g x y z u).cell? ⟨g, 1, none⟩ = some y ∧ (put4 w2 g x y z u).cell? ⟨g, 2, none⟩ = some z ∧ (put4 w2 g x y z u).cell? ⟨g, 3, none⟩ = some u := by
  have h2 := (((h.put 0 x).put 1 y).put 2 z).put 3 u
  exact ⟨(h2.cell 0).trans (by simp), (h2.cell 1).trans (by simp), (h2.cell 2).trans (by simp), (h2.cell 3).trans (by simp)⟩
theorem put4_bw {w w2 : World} (h : Bw w w2) (x y z u : Value) : Bw w (put4 w2 w.heap.size x y z u) :=
  Below.setCell (Below.setCell (Below.setCell (Below.setCell h (Nat.le_refl _) _) (Nat.le_refl _) _) (Nat.le_refl _) _) (Nat.le_refl _) _
/-- The value of a part. -/
def partV (p : PartR) : Value := .agg #[.int .i64 p.lo, .int .i64 p.hi, .int .i64 p.lo, .int .i64 p.hi]
def noneV : Value := .agg #[.int .i64 0, .int .i64 0, .int .i64 0, .int .i64 0]
def firstV (L : List PartR) (a : Int) : Value := if h : fstI L a < L.length then partV L[fstI L a] else noneV
set_option maxRecDepth 100000 in
set_option maxHeartbeats 4000000 in
theorem first_any (g : Nat) (L : List PartR) (hR : Rising L) (h9 : L.length ≤ 1000000000) (a : Int) (w : World) (hs : SetAt w g L) :
    Calls Try.prog 76 #[.pointer (some ⟨g, 0, none⟩), .int .i64 a] w fun e w' => e = .returned (.tuple #[firstV L a, .bool (firstB L a)]) ∧ Bw w w' := by
  obtain ⟨bv, hc, hb⟩ := hs
  rcases hb with ⟨rfl, rfl⟩ | ⟨ob, oc, ib, n, cap, rfl, h1, h2, h3, h4, h5, h6, h7⟩
  · have e1 : firstV [] a = noneV := rfl
    have e2 : firstB [] a = false := rfl
    have hw1 : Bw w (w.alloc (.cells #[.int .i64 0, .int .i64 0, .int .i64 0, .int .i64 0] 97)) := (Bw.refl w).alloc _
    rw [e1, e2]
    have HC := hid hc
    have HW1 := hid hw1
    clear hc hw1 e1 e2 h9 hR
    go_enter Try.func76, Try.ntmps76
    go_wp2_with fail
    refine (list_any g _ _ (HW1.out.cell HC.out)).mono ?_
    rintro e w1 ⟨rfl, rfl⟩
    go_wp2_with fail
    refine (search_ret none 0 0 _).mono ?_
    rintro e w1 ⟨b1, rfl, hk, hb⟩
    have HB := hid hb
    clear hb
    go_wp2_with fail
    refine (sea_nil b1 a w1 hk).mono ?_
    rintro e w2 ⟨rfl, hb⟩
    have HX := ((HB.out.trans hb).has (Has.new w 97 #[.int .i64 0, .int .i64 0, .int .i64 0, .int .i64 0]))
    have HB2 := hid ((HW1.out.trans HB.out).trans hb)
    have c0 : w2.cell? ⟨w.heap.size, 0, none⟩ = some (.int .i64 0) := HX.cell 0
    have c1 : w2.cell? ⟨w.heap.size, 1, none⟩ = some (.int .i64 0) := HX.cell 1
    have c2 : w2.cell? ⟨w.heap.size, 2, none⟩ = some (.int .i64 0) := HX.cell 2
    have c3 : w2.cell? ⟨w.heap.size, 3, none⟩ = some (.int .i64 0) := HX.cell 3
    have f0 := HX.frozen 0
    have f1 := HX.frozen 1
    have f2 := HX.frozen 2
    have f3 := HX.frozen 3
    have HP3 := hid (has_put4 HX (.int .i64 0) (.int .i64 0) (.int .i64 0) (.int .i64 0))
    have HB3 := hid (put4_bw HB2.out (.int .i64 0) (.int .i64 0) (.int .i64 0) (.int .i64 0))
    clear hb hk HX
    go_wp2
    obtain ⟨p0, p1, p2, p3⟩ := HP3.out
    unfold put4 at p0 p1 p2 p3 HB3
    generalize World.setCell (World.setCell (World.setCell (World.setCell w2 _ _) _ _) _ _) _ _ = W3 at *
    try simp only [Exit.inBlock, Exit.then]
    refine bodyPost_ret (by simp [results, Try.results76, go_sem, p0, p1, p2, p3]; try rfl) rfl ?_
    exact ⟨rfl, HB3.out⟩
  · have hw1 : Bw w (w.alloc (.cells #[.int .i64 0, .int .i64 0, .int .i64 0, .int .i64 0] 97)) := (Bw.refl w).alloc _
    have HC := hid hc
    have HW1 := hid hw1
    have H4 := hid h4
    have H5 := hid h5
    have H7 := hid h7
    have hfl := fst_le L a
    clear hc hw1 h4 h7 h3
    by_cases hf : fstI L a < L.length
    · have e1 : firstV L a = partV L[fstI L a] := dif_pos hf
      have e2 : firstB L a = true := decide_eq_true hf
      have e3 : seaB L a = 0 := if_pos hf
      have e4 : seaI L a = fstI L a := if_pos hf
      have hse : ∀ b1 w1, w1.cell? ⟨b1, 0, none⟩ = some (.slice (some ⟨ob, 0, none⟩) 1 oc) → Bw w w1 → Calls Try.prog 93 #[.int .i64 a, .pointer (some ⟨b1, 0, none⟩)] w1 fun e w' => e = .returned (.tuple #[.int .i64 (0 : Nat), .int .i64 (fstI L a : Nat)]) ∧ Bw w1 w' := fun b1 w1 hk hb => by
        have := sea_some b1 ob oc ib n cap L hR a h1 h5 h6 (by omega) w1 hk (hb.cell H4.out) (hb.own H7.out)
        rwa [e3, e4] at this
      have HSE := hid hse
      rw [e1, e2]
      clear e1 e2 e3 e4 hse
      obtain ⟨j, hj⟩ : ∃ j, fstI L a = j := ⟨_, rfl⟩
      have hjn : j < n := by omega
      have hp := fun W (hb : Bw w W) => part_cells (hb.own H7.out) h5 (i := j) hjn
      have epj : partV L[fstI L a] = .agg #[.int .i64 (L[j]'(by omega)).lo, .int .i64 (L[j]'(by omega)).hi, .int .i64 (L[j]'(by omega)).lo, .int .i64 (L[j]'(by omega)).hi] := by
        subst hj; rfl
      rw [epj]
      rw [hj] at HSE
      clear epj
      generalize L[j]'(by omega) = q at *
      have HP := hid hp
      clear hp hj hf h5 hfl
      go_enter Try.func76, Try.ntmps76
      go_wp2_with fail
      refine (list_any g _ _ (HW1.out.cell HC.out)).mono ?_
      rintro e w1 ⟨rfl, rfl⟩
      go_wp2_with fail
      refine (search_ret _ 1 oc _).mono ?_
      rintro e w1 ⟨b1, rfl, hk, hb⟩
      have HQ := hid hb
      have HB := hid (HW1.out.trans hb)
      clear hb
      go_wp2_with fail
      refine (HSE.out b1 w1 hk HB.out).mono ?_
      rintro e w2 ⟨rfl, hb⟩
      have HB2 := hid (HB.out.trans hb)
      have hc1 := HB2.out.cell H4.out
      obtain ⟨d0, d1, d2, d3⟩ := HP.out w2 HB2.out
      have HX := ((HQ.out.trans hb).has (Has.new w 97 #[.int .i64 0, .int .i64 0, .int .i64 0, .int .i64 0]))
      have c0 : w2.cell? ⟨w.heap.size, 0, none⟩ = some (.int .i64 0) := HX.cell 0
      have c1 : w2.cell? ⟨w.heap.size, 1, none⟩ = some (.int .i64 0) := HX.cell 1
      have c2 : w2.cell? ⟨w.heap.size, 2, none⟩ = some (.int .i64 0) := HX.cell 2
      have c3 : w2.cell? ⟨w.heap.size, 3, none⟩ = some (.int .i64 0) := HX.cell 3
      have f0 := HX.frozen 0
      have f1 := HX.frozen 1
      have f2 := HX.frozen 2
      have f3 := HX.frozen 3
      have HP3 := hid (has_put4 HX (.int .i64 q.lo) (.int .i64 q.hi) (.int .i64 q.lo) (.int .i64 q.hi))
      have HB3 := hid (put4_bw HB2.out (.int .i64 q.lo) (.int .i64 q.hi) (.int .i64 q.lo) (.int .i64 q.hi))
      clear hb hk HX
      go_wp2
      obtain ⟨p0, p1, p2, p3⟩ := HP3.out
      unfold put4 at p0 p1 p2 p3 HB3
      generalize World.setCell (World.setCell (World.setCell (World.setCell w2 _ _) _ _) _ _) _ _ = W3 at *
      try simp only [Exit.inBlock, Exit.then]
      refine bodyPost_ret (by simp [results, Try.results76, go_sem, p0, p1, p2, p3]; try rfl) rfl ?_
      exact ⟨rfl, HB3.out⟩
    · have e1 : firstV L a = noneV := dif_neg hf
      have e2 : firstB L a = false := decide_eq_false hf
      have e3 : seaB L a = 1 := (if_neg hf).trans (if_neg (by omega))
      have e4 : seaI L a = 0 := if_neg hf
      have hse : ∀ b1 w1, w1.cell? ⟨b1, 0, none⟩ = some (.slice (some ⟨ob, 0, none⟩) 1 oc) → Bw w w1 → Calls Try.prog 93 #[.int .i64 a, .pointer (some ⟨b1, 0, none⟩)] w1 fun e w' => e = .returned (.tuple #[.int .i64 (1 : Nat), .int .i64 (0 : Nat)]) ∧ Bw w1 w' := fun b1 w1 hk hb => by
        have := sea_some b1 ob oc ib n cap L hR a h1 h5 h6 (by omega) w1 hk (hb.cell H4.out) (hb.own H7.out)
        rwa [e3, e4] at this
      have HSE := hid hse
      rw [e1, e2]
      clear e1 e2 e3 e4 hse hf h5 hfl
      go_enter Try.func76, Try.ntmps76
      go_wp2_with fail
      refine (list_any g _ _ (HW1.out.cell HC.out)).mono ?_
      rintro e w1 ⟨rfl, rfl⟩
      go_wp2_with fail
      refine (search_ret _ 1 oc _).mono ?_
      rintro e w1 ⟨b1, rfl, hk, hb⟩
      have HQ := hid hb
      have HB := hid (HW1.out.trans hb)
      clear hb
      go_wp2_with fail
      refine (HSE.out b1 w1 hk HB.out).mono ?_
      rintro e w2 ⟨rfl, hb⟩
      have HB2 := hid (HB.out.trans hb)
      have HX := ((HQ.out.trans hb).has (Has.new w 97 #[.int .i64 0, .int .i64 0, .int .i64 0, .int .i64 0]))
      have c0 : w2.cell? ⟨w.heap.size, 0, none⟩ = some (.int .i64 0) := HX.cell 0
      have c1 : w2.cell? ⟨w.heap.size, 1, none⟩ = some (.int .i64 0) := HX.cell 1
      have c2 : w2.cell? ⟨w.heap.size, 2, none⟩ = some (.int .i64 0) := HX.cell 2
      have c3 : w2.cell? ⟨w.heap.size, 3, none⟩ = some (.int .i64 0) := HX.cell 3
      have f0 := HX.frozen 0
      have f1 := HX.frozen 1
      have f2 := HX.frozen 2
      have f3 := HX.frozen 3
      have HP3 := hid (has_put4 HX (.int .i64 0) (.int .i64 0) (.int .i64 0) (.int .i64 0))
      have HB3 := hid (put4_bw HB2.out (.int .i64 0) (.int .i64 0) (.int .i64 0) (.int .i64 0))
      clear hb hk HX
      go_wp2
      obtain ⟨p0, p1, p2, p3⟩ := HP3.out
      unfold put4 at p0 p1 p2 p3 HB3
      generalize World.setCell (World.setCell (World.setCell (World.setCell w2 _ _) _ _) _ _) _ _ = W3 at *
      try simp only [Exit.inBlock, Exit.then]
      refine bodyPost_ret (by simp [results, Try.results76, go_sem, p0, p1, p2, p3]; try rfl) rfl ?_
      exact ⟨rfl, HB3.out⟩

set_option maxRecDepth 100000 in
set_option maxHeartbeats 4000000 in
theorem clash_any (g : Nat) (L : List PartR) (hR : Rising L) (h9 : L.length ≤ 1000000000) (lo hi : Int) (w : World) (hs : SetAt w g L) :
    Calls Try.prog 56 #[.pointer (some ⟨g, 0, none⟩), .int .i64 lo, .int .i64 hi] w fun e w' => e = .returned (.bool (clashB L lo hi)) ∧ Bw w w' := by
  have HF := hid (fun W (hb : Bw w W) => first_any g L hR h9 lo W (hs.bw hb))
  have HS := hid (fun W => isSpan_any lo hi W)
  by_cases hsp : spB lo hi = true
  · by_cases hf : fstI L lo < L.length
    · have e1 : firstV L lo = partV L[fstI L lo] := dif_pos hf
      have e2 : firstB L lo = true := decide_eq_true hf
      have e3 : clashB L lo hi = decide (((L[fstI L lo]).lo : Int) < hi) := by unfold clashB; rw [dif_pos hf, hsp]; rfl
      rw [e3]
      rw [e1, e2] at HF
      rw [hsp] at HS
      unfold partV at HF
      clear e1 e2 e3 hsp hs
      generalize L[fstI L lo] = q at *
      clear hf
      go_enter Try.func56, Try.ntmps56
      go_wp2_with fail
      refine (HS.out w).mono ?_
      rintro e w1 ⟨rfl, rfl⟩
      go_wp2_with fail
      refine (HF.out w (Bw.refl w)).mono ?_
      rintro e w2 ⟨rfl, hb⟩
      have HB := hid hb
      clear hb
      go_wp2
      go_returns
      exact ⟨rfl, HB.out.alloc _⟩
    · have e1 : firstV L lo = noneV := dif_neg hf
      have e2 : firstB L lo = false := decide_eq_false hf
      have e3 : clashB L lo hi = false := by unfold clashB; rw [dif_neg hf, hsp]; rfl
      rw [e3]
      rw [e1, e2] at HF
      rw [hsp] at HS
      unfold noneV at HF
      clear e1 e2 e3 hsp hs hf
      go_enter Try.func56, Try.ntmps56
      go_wp2_with fail
      refine (HS.out w).mono ?_
      rintro e w1 ⟨rfl, rfl⟩
      go_wp2_with fail
      refine (HF.out w (Bw.refl w)).mono ?_
      rintro e w2 ⟨rfl, hb⟩
      have HB := hid hb
      clear hb
      go_wp2
      go_returns
      exact ⟨rfl, HB.out.alloc _⟩
  · have e3 : clashB L lo hi = false := by unfold clashB; rw [eq_false_of_ne_true hsp]; rfl
    rw [e3]
    rw [eq_false_of_ne_true hsp] at HS
    clear e3 hsp hs HF
    go_enter Try.func56, Try.ntmps56
    go_wp2_with fail
    refine (HS.out w).mono ?_
    rintro e w1 ⟨rfl, rfl⟩
    go_wp2
    go_returns
    exact ⟨rfl, Bw.refl _⟩
set_option maxRecDepth 100000 in
set_option maxHeartbeats 4000000 in
theorem setlen_any (g : Nat) (L : List PartR) (h9 : L.length ≤ 1000000000) (w : World) (hs : SetAt w g L) :
    Calls Try.prog 31 #[.pointer (some ⟨g, 0, none⟩)] w fun e w' => e = .returned (.int .i64 L.length) ∧ Bw w w' := by
  obtain ⟨bv, hc, hb⟩ := hs
  rcases hb with ⟨rfl, rfl⟩ | ⟨ob, oc, ib, n, cap, rfl, h1, h2, h3, h4, h5, h6, h7⟩
  · have HL := hid (list_any g _ w hc)
    clear hc
    go_enter Try.func31, Try.ntmps31
    go_wp2_with fail
    refine HL.out.mono ?_
    rintro e w1 ⟨rfl, rfl⟩
    go_wp2
    go_loopw [3, 9] (fun n i wr => n = .int .i64 0 ∧ i = .int .i64 0 ∧ ∃ z, wr = w.drewN z) (fun n i _ => 0)
    case atStart => exact ⟨rfl, rfl, 0, rfl⟩
    case round =>
      obtain ⟨rfl, rfl, z, rfl⟩ := hrel
      go_wp2
      go_returns
      exact ⟨rfl, (Bw.refl w).drewN z⟩
  · have HL := hid (list_any g _ w hc)
    have H5 := hid h5
    have HR : Hid (Calls Try.prog 58 #[.pointer (some ⟨g, 0, none⟩)] w fun e w' => e = .returned (.slice (some ⟨ob, 0, none⟩) 1 oc) ∧ w = w') := HL
    have hgoal : (Calls Try.prog 31 #[.pointer (some ⟨g, 0, none⟩)] w fun e w' => e = .returned (.int .i64 n) ∧ Bw w w') := by
      have hn9 : n ≤ 1000000000 := by omega
      clear hc h5 h9 h7 HL
      go_enter Try.func31, Try.ntmps31
      go_wp2_with fail
      refine HR.out.mono ?_
      rintro e w1 ⟨rfl, rfl⟩
      go_wp2
      go_loopw [3, 9] (fun m i wr => ∃ a : Nat, a ≤ 1 ∧ i = .int .i64 a ∧ m = .int .i64 (a * n : Nat) ∧ ∃ z, wr = w.drewN z) (fun _ i _ => 1 - (intOf i).toNat)
      case atStart => exact ⟨0, by omega, rfl, by rw [Nat.zero_mul]; rfl, 0, rfl⟩
      case round =>
        obtain ⟨a, ha, rfl, rfl, z, rfl⟩ := hrel
        by_cases hlt : a < 1
        · have h40 : (w.drewN z).cell? ⟨ob, 0, none⟩ = some (.slice (some ⟨ib, 0, none⟩) n cap) := by simpa using h4
          obtain rfl : a = 0 := by omega
          rw [Nat.zero_mul]
          go_wp2
          go_roundw
          case rel => exact ⟨1, by omega, rfl, by rw [Nat.one_mul], z, rfl⟩
          case measure => simp [intOf]
        · obtain rfl : a = 1 := by omega
          rw [Nat.one_mul]
          go_wp2
          go_returns
          exact ⟨rfl, (Bw.refl w).drewN z⟩
    rwa [h5] at hgoal
set_option maxRecDepth 100000 in
theorem new_has (w : World) :
    Calls Try.prog 28 #[] w fun e w' => ∃ g : Nat, e = .returned (.pointer (some ⟨g, 0, none⟩)) ∧ Has w' g 94 #[.slice none 0 0] ∧ w.heap.size ≤ g ∧ Bw w w' := by
  have H : Hid (Has (w.alloc (.cells #[.slice none 0 0] 94)) w.heap.size 94 #[.slice none 0 0]) := hid (Has.new w _ _)
  have HB := hid ((Bw.refl w).alloc (.cells #[.slice none 0 0] 94))
  go_enter Try.func28, Try.ntmps28
  go_wp2
  go_returns
  exact ⟨_, rfl, H.out, Nat.le_refl _, HB.out⟩
end Go.Proofs.Ytemgdnloabefjaa.Sp
