/- Nodes and their symbols in memory; leaves (contract of the function). -/
import Derived.Test.YtcacnidlfjglbaaHufZ
import Derived.Test.YtcacnidlfjglbaaHufU
namespace Go.Proofs.Ytcacnidlfjglbaa
open Go.RowKit Go.Conc
set_option linter.unusedVariables false
/-- A node: its weight, its symbols. -/
abbrev NdM := Nat × List Nat
def symCells (s : List Nat) : List Value := s.map fun i => .int .i64 (i : Nat)
def SymR (X : Nat → Prop) (W : World) (x : Nd) (s : List Nat) : Prop := ∃ g cap, x.2 = (some ⟨g, 0, none⟩, s.length, cap) ∧ 0 < s.length ∧ W.ownsRow 0 3 1 (.slice (some ⟨g, 0, none⟩) s.length cap) s.length (symCells s) ∧ ¬ X g
/-- Nodes as they lie: weights, and rows of symbols, none of them in a block of X. -/
def NodesM (X : Nat → Prop) (W : World) (N : List Nd) (M : List NdM) : Prop := N.length = M.length ∧ ∀ i (h1 : i < N.length) (h2 : i < M.length), N[i].1 = ((M[i].1 : Nat) : Int) ∧ SymR X W N[i] M[i].2
theorem SymR.bw {X : Nat → Prop} {W W' : World} {x : Nd} {s : List Nat} (h : SymR X W x s) (hb : Bw W W') : SymR X W' x s := by
  obtain ⟨g, cap, h1, h2, h3, h4⟩ := h
  exact ⟨g, cap, h1, h2, hb.own h3, h4⟩
theorem NodesM.bw {X : Nat → Prop} {W W' : World} {N : List Nd} {M : List NdM} (h : NodesM X W N M) (hb : Bw W W') : NodesM X W' N M := ⟨h.1, fun i h1 h2 => ⟨(h.2 i h1 h2).1, (h.2 i h1 h2).2.bw hb⟩⟩
theorem NodesM.snoc {X : Nat → Prop} {W : World} {N : List Nd} {M : List NdM} (h : NodesM X W N M) {x : Nd} {m : NdM} (h1 : x.1 = ((m.1 : Nat) : Int)) (h2 : SymR X W x m.2) : NodesM X W (N ++ [x]) (M ++ [m]) := by
  refine ⟨by simp [h.1], fun i hi hj => ?_⟩
  by_cases e : i < N.length
  · have e2 : i < M.length := by rw [← h.1]; exact e
    rw [List.getElem_append_left e, List.getElem_append_left e2]
    exact h.2 i e e2
  · have e1 : i = N.length := by simp at hi; omega
    subst e1
    have e2 : N.length = M.length := h.1
    rw [List.getElem_append_right (Nat.le_refl _)]
    simp only [Nat.sub_self, List.getElem_cons_zero]
    have e3 : (M ++ [m])[N.length] = m := by
      rw [List.getElem_append_right (by omega)]
      simp [e2]
    rw [e3]
    exact ⟨h1, h2⟩
theorem NodesM.nil (X : Nat → Prop) (W : World) : NodesM X W [] [] := ⟨rfl, fun i h _ => absurd h (by simp)⟩
theorem SymR.grown {X : Nat → Prop} {W W' : World} {x : Nd} {s : List Nat} (h : SymR X W x s) {B n : Nat} {v : Value} {xs : List Value} (hv : W.ownsRow B 45 2 v n xs) (hg : W.grownBy W' v.ownBlock) : SymR X W' x s := by
  obtain ⟨g, cap, h1, h2, h3, h4⟩ := h
  refine ⟨g, cap, h1, h2, own_keep h3 fun b hb => hg.block b (own_lt h3 hb) (fun e => ?_), h4⟩
  obtain ⟨c1, e1⟩ := own_at h3 hb
  obtain ⟨c2, e2⟩ := own_at hv e.symm
  rw [e1] at e2
  injection e2 with e2
  injection e2 with _ e2
  exact absurd e2 (by decide)
theorem NodesM.grown {X : Nat → Prop} {W W' : World} {N : List Nd} {M : List NdM} (h : NodesM X W N M) {B n : Nat} {v : Value} {xs : List Value} (hv : W.ownsRow B 45 2 v n xs) (hg : W.grownBy W' v.ownBlock) : NodesM X W' N M := ⟨h.1, fun i h1 h2 => ⟨(h.2 i h1 h2).1, (h.2 i h1 h2).2.grown hv hg⟩⟩
/-- Blocks that are not there yet are no row's. -/
theorem NodesM.fresh {X X' : Nat → Prop} {W : World} {N : List Nd} {M : List NdM} (h : NodesM X W N M) (hX : ∀ g, X' g → W.heap.size ≤ g) : NodesM X' W N M := ⟨h.1, fun i h1 h2 => ⟨(h.2 i h1 h2).1, by
  obtain ⟨g, cap, e1, e2, e3, e4⟩ := (h.2 i h1 h2).2
  exact ⟨g, cap, e1, e2, e3, fun hg => by have := hX g hg; have := own_lt e3 (b := g) rfl; omega⟩⟩⟩
theorem ndCells_snoc (N : List Nd) (x : Nd) : ndCells (N ++ [x]) = ndCells N ++ ndE x := by simp [ndCells]
theorem nd_one (N : List Nd) : ∀ u ∈ ndCells N, u.oneCell' = true := fun u hu => by
  unfold ndCells at hu
  rw [List.mem_flatMap] at hu
  obtain ⟨x, _, hx⟩ := hu
  simp [ndE, ndV] at hx
  rcases hx with rfl | rfl <;> rfl
theorem sym_one (s : List Nat) : ∀ u ∈ symCells s, u.oneCell' = true := fun u hu => by
  unfold symCells at hu
  rw [List.mem_map] at hu
  obtain ⟨i, _, rfl⟩ := hu
  rfl
/-- The leaves of the first k. -/
def lvM (l : List Int) : Nat → List NdM
  | 0 => []
  | k + 1 => if 0 < l.getD k 0 then lvM l k ++ [((l.getD k 0).toNat, [k])] else lvM l k
theorem lvM_len (l : List Int) : ∀ k, (lvM l k).length ≤ k
  | 0 => Nat.le_refl _
  | k + 1 => by
    have := lvM_len l k
    unfold lvM
    split
    · simp; exact this
    · omega
def oftB (x : Int) : Bool := decide (0 ≤ x ∧ x ≤ 1099511627776)
set_option maxRecDepth 100000 in
set_option maxHeartbeats 4000000 in
theorem leaves_ok (a : Option Addr) (len cap : Nat) (l : List Int) (hll : Hid (l.length = len)) (h320 : len ≤ 320) (hok : ∀ x ∈ l, oftB x = true) (w : World) (hst : ZsAt w a l) :
    Calls Try.prog 17 #[.slice a len cap] w fun e w' => ∃ (v : Value) (N : List Nd), e = .returned (.tuple #[v, .bool true]) ∧ w'.ownsRow w.heap.size 45 2 v N.length (ndCells N) ∧ NodesM (fun _ => False) w' N (lvM l len) ∧ Bw w w' := by
  obtain ⟨i0, hinf, hz0, hz1, hz2⟩ := info_parts infond
  have HST := hid hst
  have HOK := hid hok
  clear hst hok
  go_enter Try.func17, Try.ntmps17
  go_wp2_with fail
  go_loopw [4, 9] (fun v i wr => ∃ (k : Nat) (N : List Nd), k ≤ len ∧ i = .int .i64 k ∧ wr.ownsRow w.heap.size 45 2 v N.length (ndCells N) ∧ NodesM (fun _ => False) wr N (lvM l k) ∧ Bw w wr) (fun _ i _ => len - (intOf i).toNat)
  case atStart => exact ⟨0, [], Nat.zero_le _, rfl, World.ownsRow_nil _ _ _ _, NodesM.nil _ _, Bw.refl _⟩
  case round =>
    obtain ⟨k, N, hk, rfl, hown, hM, hbw⟩ := hrel
    obtain ⟨vo, vc, rfl⟩ := own_slice hown
    have HOW := hid hown
    have HM := hid hM
    have HB := hid hbw
    have hNk : N.length ≤ k := by rw [hM.1]; exact lvM_len l k
    have hbz := hbw.size
    clear hown hM
    by_cases hlt : k < len
    · have hlti : (k : Int) < len := by omega
      have hkl : k < l.length := by rw [hll.out]; omega
      have hgd : l.getD k 0 = l[k] := by simp [List.getD, hkl]
      have hx := of_decide_eq_true (HOK.out l[k] (List.getElem_mem hkl))
      obtain ⟨b, off, rfl, hbl, q0⟩ := HST.out k hkl
      have HL := hid (show lvM l (k + 1) = if 0 < l.getD k 0 then lvM l k ++ [((l.getD k 0).toNat, [k])] else lvM l k from rfl)
      rw [hgd] at HL
      have x0 : wr.cell? ⟨b, off + k, none⟩ = some (.int .i64 l[k]) := (World.cell?_of_block (hbw.block b hbl)).trans q0
      clear q0 hgd hbw
      generalize l[k] = x at *
      clear hkl
      obtain ⟨hx1, hx2⟩ := hx
      by_cases hp : 0 < x
      · rw [if_pos hp] at HL
        obtain ⟨n, hn⟩ : ∃ n, N.length = n := ⟨_, rfl⟩
        have HN := hid hn
        rw [hn] at HOW hNk ⊢
        clear hn
        have HS1 := hid (Has.new wr 3 #[.int .i64 k])
        go_wp2_with (at_builtin; refine wpList_append_own_at _ rfl (.tmp 22) (.tmp 27) 40 rfl w.heap.size 45 i0 (.agg #[.int .i64 0, .slice none 0 0]) 2 32 Try.underlying40 hinf hz0 hz1 hz2 rfl (by decide) (.slice vo n vc) n (ndCells N) rfl ((HOW.out.alloc _).alloc _) ⟨wr.heap.size + 1, 0, none⟩ 1 1 [.int .i64 x, .slice (some ⟨wr.heap.size, 0, none⟩) 1 1] rfl rfl (two_at (by simp) _ _ _) (by intro u hu; simp at hu; rcases hu with rfl | rfl <;> rfl) (by unfold maxLen; omega) (by omega) (by simp; omega) ?_; intro v' w5 hown5 hgrow5 _ _; have HO5 := hid hown5; have HG5 := hid hgrow5; clear hown5 hgrow5)
        have HB5 := hid (show Bw w w5 from Below.trans ((HB.out.alloc _).alloc _) (own_grownJ HOW.out HG5.out (by simp; omega)))
        have HM5 := hid (NodesM.grown (HM.out.bw (((Bw.refl wr).alloc (.cells #[.int .i64 k] 3)).alloc (.cells #[.int .i64 x, .slice (some ⟨wr.heap.size, 0, none⟩) 1 1] 45))) ((HOW.out.alloc _).alloc _) HG5.out)
        have HS5 := hid (SymR.grown (X := fun _ => False) (x := (x, some ⟨wr.heap.size, 0, none⟩, 1, 1)) (s := [k]) (W := (wr.alloc (.cells #[.int .i64 k] 3)).alloc (.cells #[.int .i64 x, .slice (some ⟨wr.heap.size, 0, none⟩) 1 1] 45)) ⟨wr.heap.size, 1, rfl, by simp, ⟨rfl, .inr ⟨wr.heap.size, 1, #[.int .i64 k], rfl, Nat.zero_le _, HS1.out.alloc _, Nat.le_refl _, by unfold maxLen; omega, rfl, rfl⟩⟩, fun h => h⟩ ((HOW.out.alloc _).alloc _) HG5.out)
        go_roundw
        case rel =>
          refine ⟨k + 1, N ++ [(x, some ⟨wr.heap.size, 0, none⟩, 1, 1)], by omega, by go_num, ?_, ?_, HB5.out⟩
          · rw [List.length_append, HN.out, ndCells_snoc]
            exact HO5.out
          · rw [HL.out]
            exact HM5.out.snoc (by simp only; omega) HS5.out
        case measure => simp [intOf]; omega
      · rw [if_neg hp] at HL
        have hx0 : x ≤ 0 := by omega
        go_wp2
        go_roundw
        case rel => exact ⟨k + 1, N, by omega, by go_num, HOW.out, by rw [HL.out]; exact HM.out, HB.out⟩
        case measure => simp [intOf]; omega
    · obtain rfl : k = len := by omega
      go_wp2
      go_returns
      exact ⟨_, N, rfl, HOW.out, HM.out, HB.out⟩
end Go.Proofs.Ytcacnidlfjglbaa
