import Derived.Test.YtacgnadhpgkcmaaDoorOwnB
import Derived.Test.YtacgnadhpgkcmaaDoorHufZ
import Derived.Test.YtacgnadhpgkcmaaDoorHufQ
import Derived.Deep.RegionHeld3
import Derived.IntWalk
import Derived.Deep.AppendLies
import Derived.Test.YtacgnadhpgkcmaaDoorSortL
/- A row that a call owns lies at or behind a base. No program in it. -/
namespace Go.Proofs.YtacgnadhpgkcmaaDoor
open Go.RowKit
set_option linter.unusedVariables false
theorem own_base {w : World} {B B' t size n : Nat} {v : Value} {xs : List Value} (h : w.ownsRow B t size v n xs) (hB : B' ≤ B) : w.ownsRow B' t size v n xs := by
  refine ⟨h.1, ?_⟩
  rcases h.2 with ⟨e, h0⟩ | ⟨g, cap, cur, e, h1, h2⟩
  · exact .inl ⟨e, h0⟩
  · exact .inr ⟨g, cap, cur, e, Nat.le_trans hB h1, h2⟩
end Go.Proofs.YtacgnadhpgkcmaaDoor
/- Nodes and their symbols in memory; leaves (contract of the function). -/
namespace Go.Proofs.YtacgnadhpgkcmaaDoor
open Go.RowKit Go.Conc
set_option linter.unusedVariables false
/-- A node: its weight, its symbols. -/
abbrev NdM := Nat × List Nat
def symCells (s : List Nat) : List Value := s.map fun i => .int .i64 (i : Nat)
def SymR (X : Nat → Prop) (W : World) (x : Nd) (s : List Nat) : Prop := ∃ g cap, x.2 = (some ⟨g, 0, none⟩, s.length, cap) ∧ 0 < s.length ∧ W.ownsRow 0 3 1 (.slice (some ⟨g, 0, none⟩) s.length cap) s.length (symCells s) ∧ ¬ X g
/-- Nodes as they lie: weights, and rows of symbols, none of them in a block of X. -/
def NodesM (X : Nat → Prop) (W : World) (N : List Nd) (M : List NdM) : Prop := N.length = M.length ∧ ∀ i (h1 : i < N.length) (h2 : i < M.length), N[i].1 = ((M[i].1 : Nat) : Int) ∧ SymR X W N[i] M[i].2
theorem SymR.bw {X : Nat → Prop} {W W' : World} {x : Nd} {s : List Nat} (h : SymR X W x s) (hb : Bw W W') : SymR X W' x s := by
  obtain ⟨g, cap, h1, h2, h3, h4⟩ := h
  exact ⟨g, cap, h1, h2, hb.own h3, h4⟩
theorem NodesM.bw {X : Nat → Prop} {W W' : World} {N : List Nd} {M : List NdM} (h : NodesM X W N M) (hb : Bw W W') : NodesM X W' N M := ⟨h.1, fun i h1 h2 => ⟨(h.2 i h1 h2).1, (h.2 i h1 h2).2.bw hb⟩⟩
theorem NodesM.snoc {X : Nat → Prop} {W : World} {N : List Nd} {M : List NdM} (h : NodesM X W N M) {x : Nd} {m : NdM} (h1 : x.1 = ((m.1 : Nat) : Int)) (h2 : SymR X W x m.2) : NodesM X W (N ++ [x]) (M ++ [m]) := by
  refine ⟨by simp [h.1], fun i hi hj => ?_⟩
  by_cases e : i < N.length
  · have e2 : i < M.length := by rw [← h.1]; exact e
    rw [List.getElem_append_left e, List.getElem_append_left e2]
    exact h.2 i e e2
  · have e1 : i = N.length := by simp at hi; omega
    subst e1
    have e2 : N.length = M.length := h.1
    rw [List.getElem_append_right (Nat.le_refl _)]
    simp only [Nat.sub_self, List.getElem_cons_zero]
    have e3 : (M ++ [m])[N.length] = m := by
      rw [List.getElem_append_right (by omega)]
      simp [e2]
    rw [e3]
    exact ⟨h1, h2⟩
theorem NodesM.nil (X : Nat → Prop) (W : World) : NodesM X W [] [] := ⟨rfl, fun i h _ => absurd h (by simp)⟩
theorem SymR.grown {X : Nat → Prop} {W W' : World} {x : Nd} {s : List Nat} (h : SymR X W x s) {B n : Nat} {v : Value} {xs : List Value} (hv : W.ownsRow B 115 2 v n xs) (hg : W.grownBy W' v.ownBlock) : SymR X W' x s := by
  obtain ⟨g, cap, h1, h2, h3, h4⟩ := h
  refine ⟨g, cap, h1, h2, own_keep h3 fun b hb => hg.block b (own_lt h3 hb) (fun e => ?_), h4⟩
  obtain ⟨c1, e1⟩ := own_at h3 hb
  obtain ⟨c2, e2⟩ := own_at hv e.symm
  rw [e1] at e2
  injection e2 with e2
  injection e2 with _ e2
  exact absurd e2 (by decide)
theorem NodesM.grown {X : Nat → Prop} {W W' : World} {N : List Nd} {M : List NdM} (h : NodesM X W N M) {B n : Nat} {v : Value} {xs : List Value} (hv : W.ownsRow B 115 2 v n xs) (hg : W.grownBy W' v.ownBlock) : NodesM X W' N M := ⟨h.1, fun i h1 h2 => ⟨(h.2 i h1 h2).1, (h.2 i h1 h2).2.grown hv hg⟩⟩
/-- Blocks that are not there yet are no row's. -/
theorem NodesM.fresh {X X' : Nat → Prop} {W : World} {N : List Nd} {M : List NdM} (h : NodesM X W N M) (hX : ∀ g, X' g → W.heap.size ≤ g) : NodesM X' W N M := ⟨h.1, fun i h1 h2 => ⟨(h.2 i h1 h2).1, by
  obtain ⟨g, cap, e1, e2, e3, e4⟩ := (h.2 i h1 h2).2
  exact ⟨g, cap, e1, e2, e3, fun hg => by have := hX g hg; have := own_lt e3 (b := g) rfl; omega⟩⟩⟩
theorem ndCells_snoc (N : List Nd) (x : Nd) : ndCells (N ++ [x]) = ndCells N ++ ndE x := by simp [ndCells]
theorem nd_one (N : List Nd) : ∀ u ∈ ndCells N, u.oneCell' = true := fun u hu => by
  unfold ndCells at hu
  rw [List.mem_flatMap] at hu
  obtain ⟨x, _, hx⟩ := hu
  simp [ndE, ndV] at hx
  rcases hx with rfl | rfl <;> rfl
theorem sym_one (s : List Nat) : ∀ u ∈ symCells s, u.oneCell' = true := fun u hu => by
  unfold symCells at hu
  rw [List.mem_map] at hu
  obtain ⟨i, _, rfl⟩ := hu
  rfl
/-- The leaves of the first k. -/
def lvM (l : List Int) : Nat → List NdM
  | 0 => []
  | k + 1 => if 0 < l.getD k 0 then lvM l k ++ [((l.getD k 0).toNat, [k])] else lvM l k
theorem lvM_len (l : List Int) : ∀ k, (lvM l k).length ≤ k
  | 0 => Nat.le_refl _
  | k + 1 => by
    have := lvM_len l k
    unfold lvM
    split
    · simp; exact this
    · omega
def oftB (x : Int) : Bool := decide (0 ≤ x ∧ x ≤ 1099511627776)
set_option maxRecDepth 100000 in
set_option maxHeartbeats 4000000 in
theorem leaves_ok (a : Option Addr) (len cap : Nat) (l : List Int) (hll : Hid (l.length = len)) (h320 : len ≤ 320) (hok : ∀ x ∈ l, oftB x = true) (w : World) (hst : ZsAt w a l) :
    Calls Tryd.prog 56 #[.slice a len cap] w fun e w' => ∃ (v : Value) (N : List Nd), e = .returned (.tuple #[v, .bool true]) ∧ w'.ownsRow w.heap.size 115 2 v N.length (ndCells N) ∧ NodesM (fun _ => False) w' N (lvM l len) ∧ Bw w w' := by
  obtain ⟨i0, hinf, hz0, hz1, hz2⟩ := info_parts infond
  have HST := hid hst
  have HOK := hid hok
  clear hst hok
  go_enter Tryd.func56, Tryd.ntmps56
  go_wp2_with fail
  go_loopw [4, 9] (fun v i wr => ∃ (k : Nat) (N : List Nd), k ≤ len ∧ i = .int .i64 k ∧ wr.ownsRow w.heap.size 115 2 v N.length (ndCells N) ∧ NodesM (fun _ => False) wr N (lvM l k) ∧ Bw w wr) (fun _ i _ => len - (intOf i).toNat)
  case atStart => exact ⟨0, [], Nat.zero_le _, rfl, World.ownsRow_nil _ _ _ _, NodesM.nil _ _, Bw.refl _⟩
  case round =>
    obtain ⟨k, N, hk, rfl, hown, hM, hbw⟩ := hrel
    obtain ⟨vo, vc, rfl⟩ := own_slice hown
    have HOW := hid hown
    have HM := hid hM
    have HB := hid hbw
    have hNk : N.length ≤ k := by rw [hM.1]; exact lvM_len l k
    have hbz := hbw.size
    clear hown hM
    by_cases hlt : k < len
    · have hlti : (k : Int) < len := by omega
      have hkl : k < l.length := by rw [hll.out]; omega
      have hgd : l.getD k 0 = l[k] := by simp [List.getD, hkl]
      have hx := of_decide_eq_true (HOK.out l[k] (List.getElem_mem hkl))
      obtain ⟨b, off, rfl, hbl, q0⟩ := HST.out k hkl
      have HL := hid (show lvM l (k + 1) = if 0 < l.getD k 0 then lvM l k ++ [((l.getD k 0).toNat, [k])] else lvM l k from rfl)
      rw [hgd] at HL
      have x0 : wr.cell? ⟨b, off + k, none⟩ = some (.int .i64 l[k]) := (World.cell?_of_block (hbw.block b hbl)).trans q0
      clear q0 hgd hbw
      generalize l[k] = x at *
      clear hkl
      obtain ⟨hx1, hx2⟩ := hx
      by_cases hp : 0 < x
      · rw [if_pos hp] at HL
        obtain ⟨n, hn⟩ : ∃ n, N.length = n := ⟨_, rfl⟩
        have HN := hid hn
        rw [hn] at HOW hNk ⊢
        clear hn
        have HS1 := hid (Has.new wr 3 #[.int .i64 k])
        go_wp2_with (at_builtin; refine wpList_append_own_at _ rfl (.tmp 22) (.tmp 27) 110 rfl w.heap.size 115 i0 (.agg #[.int .i64 0, .slice none 0 0]) 2 32 Tryd.underlying110 hinf hz0 hz1 hz2 rfl (by decide) (.slice vo n vc) n (ndCells N) rfl ((HOW.out.alloc _).alloc _) ⟨wr.heap.size + 1, 0, none⟩ 1 1 [.int .i64 x, .slice (some ⟨wr.heap.size, 0, none⟩) 1 1] rfl rfl (two_at (by simp) _ _ _) (by intro u hu; simp at hu; rcases hu with rfl | rfl <;> rfl) (by unfold maxLen; omega) (by omega) (by simp; omega) ?_; intro v' w5 hown5 hgrow5 _ _; have HO5 := hid hown5; have HG5 := hid hgrow5; clear hown5 hgrow5)
        have HB5 := hid (show Bw w w5 from Below.trans ((HB.out.alloc _).alloc _) (own_grownJ HOW.out HG5.out (by simp; omega)))
        have HM5 := hid (NodesM.grown (HM.out.bw (((Bw.refl wr).alloc (.cells #[.int .i64 k] 3)).alloc (.cells #[.int .i64 x, .slice (some ⟨wr.heap.size, 0, none⟩) 1 1] 115))) ((HOW.out.alloc _).alloc _) HG5.out)
        have HS5 := hid (SymR.grown (X := fun _ => False) (x := (x, some ⟨wr.heap.size, 0, none⟩, 1, 1)) (s := [k]) (W := (wr.alloc (.cells #[.int .i64 k] 3)).alloc (.cells #[.int .i64 x, .slice (some ⟨wr.heap.size, 0, none⟩) 1 1] 115)) ⟨wr.heap.size, 1, rfl, by simp, ⟨rfl, .inr ⟨wr.heap.size, 1, #[.int .i64 k], rfl, Nat.zero_le _, HS1.out.alloc _, Nat.le_refl _, by unfold maxLen; omega, rfl, rfl⟩⟩, fun h => h⟩ ((HOW.out.alloc _).alloc _) HG5.out)
        go_roundw
        case rel =>
          refine ⟨k + 1, N ++ [(x, some ⟨wr.heap.size, 0, none⟩, 1, 1)], by omega, by go_num, ?_, ?_, HB5.out⟩
          · rw [List.length_append, HN.out, ndCells_snoc]
            exact HO5.out
          · rw [HL.out]
            exact HM5.out.snoc (by simp only; omega) HS5.out
        case measure => simp [intOf]; omega
      · rw [if_neg hp] at HL
        have hx0 : x ≤ 0 := by omega
        go_wp2
        go_roundw
        case rel => exact ⟨k + 1, N, by omega, by go_num, HOW.out, by rw [HL.out]; exact HM.out, HB.out⟩
        case measure => simp [intOf]; omega
    · obtain rfl : k = len := by omega
      go_wp2
      go_returns
      exact ⟨_, N, rfl, HOW.out, HM.out, HB.out⟩
end Go.Proofs.YtacgnadhpgkcmaaDoor
/- pairs (contract of the function). -/
namespace Go.Proofs.YtacgnadhpgkcmaaDoor
open Go.RowKit Go.Conc
set_option linter.unusedVariables false
/-- Each two nodes that follow one another, joined. -/
def prM : List NdM → List NdM
  | a :: b :: r => (a.1 + b.1, a.2 ++ b.2) :: prM r
  | _ => []
theorem prM_len : ∀ M : List NdM, (prM M).length = M.length / 2
  | [] => rfl
  | [_] => by simp [prM]
  | a :: b :: r => by
    show (prM r).length + 1 = (r.length + 1 + 1) / 2
    rw [prM_len r]; omega
theorem prM_snoc : ∀ (M : List NdM) (j : Nat) (h : 2 * j + 1 < M.length), prM (M.take (2 * (j + 1))) = prM (M.take (2 * j)) ++ [((M[2 * j]'(by omega)).1 + (M[2 * j + 1]).1, (M[2 * j]'(by omega)).2 ++ (M[2 * j + 1]).2)]
  | [], j, h => absurd h (by simp)
  | [_], j, h => absurd h (by simp)
  | a :: b :: r, 0, _ => rfl
  | a :: b :: r, j + 1, h => by
    have ih := prM_snoc r j (by simp at h; omega)
    have e1 : 2 * (j + 1 + 1) = 2 * (j + 1) + 1 + 1 := by omega
    have e2 : 2 * (j + 1) = 2 * j + 1 + 1 := by omega
    show prM ((a :: b :: r).take (2 * (j + 1 + 1))) = prM ((a :: b :: r).take (2 * (j + 1))) ++ _
    rw [e1, List.take_succ_cons, List.take_succ_cons]
    have e3 : (a :: b :: r).take (2 * (j + 1)) = a :: b :: r.take (2 * j) := by rw [e2, List.take_succ_cons, List.take_succ_cons]
    rw [e3]
    show _ :: prM (r.take (2 * (j + 1))) = (_ :: prM (r.take (2 * j))) ++ _
    rw [ih]
    rfl
theorem prM_all (M : List NdM) (j : Nat) (h : M.length ≤ 2 * j + 1) : prM (M.take (2 * j)) = prM M := by
  by_cases e : M.length ≤ 2 * j
  · rw [List.take_of_length_le e]
  · have e2 : M.length = 2 * j + 1 := by omega
    clear h e
    induction j generalizing M with
    | zero =>
      match M, e2 with
      | [x], _ => rfl
    | succ j ih =>
      match M, e2 with
      | a :: b :: r, e2 =>
        have e3 : 2 * (j + 1) = 2 * j + 1 + 1 := by omega
        rw [e3, List.take_succ_cons, List.take_succ_cons]
        show _ :: prM _ = _ :: prM r
        rw [ih r (by simp at e2; omega)]
set_option maxRecDepth 100000 in
set_option maxHeartbeats 8000000 in
theorem pairs_any (B rb cap n : Nat) (N : List Nd) (M : List NdM) (hn : Hid (N.length = n)) (h0 : n ≤ 100000) (hw : ∀ m ∈ M, m.1 ≤ 1152921504606846976) (hs : ∀ m ∈ M, m.2.length ≤ 400000) (X : Nat → Prop) (w : World) (hX : ∀ g, X g → g < w.heap.size) (hB : B ≤ w.heap.size) (h : w.ownsRow B 115 2 (.slice (some ⟨rb, 0, none⟩) n cap) n (ndCells N)) (hM : NodesM X w N M) :
    Calls Tryd.prog 64 #[.slice (some ⟨rb, 0, none⟩) n cap] w fun e w' => ∃ (v : Value) (N' : List Nd), e = .returned v ∧ w'.ownsRow w.heap.size 115 2 v N'.length (ndCells N') ∧ NodesM X w' N' (prM M) ∧ Bw w w' := by
  obtain ⟨i0, hinf, hz0, hz1, hz2⟩ := info_parts infond
  have hcap := ownp_cap h
  have hrbl := own_lt h (b := rb) rfl
  have HO := hid h
  have HM := hid hM
  have HW := hid hw
  have HS := hid hs
  have hML : M.length = n := by rw [← hM.1]; exact hn.out
  have HML := hid hML
  have HX := hid hX
  clear h hM hw hs hML hX
  go_enter Tryd.func64, Tryd.ntmps64
  go_wp2_with fail
  go_loopw [3, 4] (fun v i wr => ∃ (j : Nat) (N' : List Nd), 2 * j ≤ n ∧ i = .int .i64 (((2 * j : Nat) : Int) + 1) ∧ wr.ownsRow w.heap.size 115 2 v N'.length (ndCells N') ∧ NodesM X wr N' (prM (M.take (2 * j))) ∧ Bw w wr) (fun _ i _ => n + 2 - (intOf i).toNat)
  case atStart => exact ⟨0, [], by omega, rfl, World.ownsRow_nil _ _ _ _, NodesM.nil _ _, Bw.refl _⟩
  case round =>
    obtain ⟨j, N', hj, rfl, hown, hM', hbw⟩ := hrel
    obtain ⟨vo, vc, rfl⟩ := own_slice hown
    have HOW := hid hown
    have HM' := hid hM'
    have HBW := hid hbw
    have hbz := hbw.size
    have hNl : N'.length ≤ j := by refine Nat.le_of_eq ?_; rw [hM'.1, prM_len, List.length_take, HML.out]; omega
    clear hown hM' hbw
    by_cases hlt : 2 * j + 1 < n
    · have hlti : ((2 * j : Nat) : Int) + 1 < n := by omega
      have k0 : 2 * j < N.length := by rw [hn.out]; omega
      have k1 : 2 * j + 1 < N.length := by rw [hn.out]; exact hlt
      have m0 : 2 * j < M.length := by rw [HML.out]; omega
      have m1 : 2 * j + 1 < M.length := by rw [HML.out]; exact hlt
      have HPS := hid (prM_snoc M j m1)
      have a0 := HM.out.2 (2 * j) k0 m0
      have a1 := HM.out.2 (2 * j + 1) k1 m1
      have w0 := HW.out _ (List.getElem_mem m0)
      have w1 := HW.out _ (List.getElem_mem m1)
      have s0 := HS.out _ (List.getElem_mem m0)
      have s1 := HS.out _ (List.getElem_mem m1)
      have c0 : ∀ c, c < 2 → (ndCells N)[2 * (2 * j) + c]? = (ndE N[2 * j])[c]? := fun c hc => flat2_get ndE (fun _ => rfl) N (2 * j) c k0 hc
      have c1 : ∀ c, c < 2 → (ndCells N)[2 * (2 * j + 1) + c]? = (ndE N[2 * j + 1])[c]? := fun c hc => flat2_get ndE (fun _ => rfl) N (2 * j + 1) c k1 hc
      generalize N[2 * j] = x0 at *
      generalize N[2 * j + 1] = x1 at *
      generalize M[2 * j] = y0 at *
      generalize M[2 * j + 1] = y1 at *
      obtain ⟨xa, xv⟩ := x0
      obtain ⟨xb, xu⟩ := x1
      obtain ⟨ya, ys⟩ := y0
      obtain ⟨yb, yt⟩ := y1
      obtain ⟨hxa, g0, cp0, hv0, hp0, hr0, -⟩ := a0
      obtain ⟨hxb, g1, cp1, hv1, hp1, hr1, -⟩ := a1
      simp only at hxa hxb hv0 hv1 hp0 hp1 hr0 hr1 w0 w1 s0 s1 HPS
      subst hxa hxb hv0 hv1
      obtain ⟨p, hp⟩ : ∃ p, 2 * j = p := ⟨_, rfl⟩
      have r0 := ownp_cell (HBW.out.own HO.out) (c0 0 (by omega))
      have r1 := ownp_cell (HBW.out.own HO.out) (c0 1 (by omega))
      have r2 := ownp_cell (HBW.out.own HO.out) (c1 0 (by omega))
      have r3 := ownp_cell (HBW.out.own HO.out) (c1 1 (by omega))
      rw [hp] at r0 r1 r2 r3 hlt hlti ⊢
      rw [Nat.add_zero, Nat.mul_comm] at r0 r2
      rw [Nat.mul_comm] at r1 r3
      have HSF := hid (fun (W : World) (h : W.heap[rb]? = wr.heap[rb]?) => (⟨(World.cell?_of_block h).trans r0, (World.cell?_of_block h).trans r1, (World.cell?_of_block h).trans r2, (World.cell?_of_block h).trans r3⟩ : W.cell? ⟨rb, p * 2, none⟩ = some (.int .i64 (ya : Nat)) ∧ W.cell? ⟨rb, p * 2 + 1, none⟩ = some (.slice (some ⟨g0, 0, none⟩) ys.length cp0) ∧ W.cell? ⟨rb, (p + 1) * 2, none⟩ = some (.int .i64 (yb : Nat)) ∧ W.cell? ⟨rb, (p + 1) * 2 + 1, none⟩ = some (.slice (some ⟨g1, 0, none⟩) yt.length cp1)))
      have HSS := hid (fun (W : World) (h : Bw wr W) => (⟨h.cell r0, h.cell r1, h.cell r2, h.cell r3⟩ : W.cell? ⟨rb, p * 2, none⟩ = some (.int .i64 (ya : Nat)) ∧ W.cell? ⟨rb, p * 2 + 1, none⟩ = some (.slice (some ⟨g0, 0, none⟩) ys.length cp0) ∧ W.cell? ⟨rb, (p + 1) * 2, none⟩ = some (.int .i64 (yb : Nat)) ∧ W.cell? ⟨rb, (p + 1) * 2 + 1, none⟩ = some (.slice (some ⟨g1, 0, none⟩) yt.length cp1)))
      have HP := hid hp
      have hp5 : p ≤ 100000 := by omega
      have e1 : IntKind.i64.wrap ((p : Int) + 1 - 1) = (p : Int) := by rw [IntWalk.i64_in _ (by omega)]; omega
      have e2 : IntKind.i64.wrap ((ya : Int) + yb) = (ya : Int) + yb := by rw [IntWalk.i64_in _ (by omega)]
      have e7 : IntKind.i64.wrap (p : Int) = (p : Int) := IntWalk.i64_in _ (by omega)
      have e3 : (0 : Int) ≤ (p : Int) + 1 := by omega
      have e5 : ((p : Int) + 1).toNat = p + 1 := by omega
      have e6 : (p : Int) < n := by omega
      have HA2 := hid (Has.new wr 32 #[.slice (some ⟨g0, 0, none⟩) ys.length cp0, .slice (some ⟨g1, 0, none⟩) yt.length cp1])
      have HR0 := hid (HBW.out.own hr0)
      have HR1 := hid (HBW.out.own hr1)
      clear r0 r1 r2 r3 c0 c1 hp hr0 hr1 k0 k1 m0 m1
      go_wp2_with fail
      have HAd : Hid (Has (wr.alloc (.cells #[.slice (some ⟨g0, 0, none⟩) ys.length cp0, .slice (some ⟨g1, 0, none⟩) yt.length cp1] 32)).drew wr.heap.size 32 #[.slice (some ⟨g0, 0, none⟩) ys.length cp0, .slice (some ⟨g1, 0, none⟩) yt.length cp1]) := hid HA2.out.drew
      have HBd : Hid (Bw wr (wr.alloc (.cells #[.slice (some ⟨g0, 0, none⟩) ys.length cp0, .slice (some ⟨g1, 0, none⟩) yt.length cp1] 32)).drew) := hid (((Bw.refl wr).alloc _).drewN 1)
      have hyl : ys.length + yt.length ≤ 1000000 := by omega
      go_region_held3 (fun W => W.cell? ⟨rb, p * 2, none⟩ = some (.int .i64 (ya : Nat)) ∧ W.cell? ⟨rb, p * 2 + 1, none⟩ = some (.slice (some ⟨g0, 0, none⟩) ys.length cp0) ∧ W.cell? ⟨rb, (p + 1) * 2, none⟩ = some (.int .i64 (yb : Nat)) ∧ W.cell? ⟨rb, (p + 1) * 2 + 1, none⟩ = some (.slice (some ⟨g1, 0, none⟩) yt.length cp1))
        (first | exact HSS.out _ ((Bw.refl wr).drewN 1) | exact HSS.out _ HBd.out | exact HSS.out _ HB2.out | exact HSS.out _ (HB2.out.alloc _) | exact HSF.out _ HB3.out)
        (first
          | (go_at_call 25; refine (concat_zs wr.heap.size 0 g0 cp0 ys.length 0 g1 cp1 yt.length (symCells ys) (symCells yt) hp0 hp1 hyl (sym_one _) (sym_one _) _ HAd.out (HBd.out.own HR0.out) (HBd.out.own HR1.out)).mono ?_; rintro e w2 ⟨v2, rfl, hv2, hb2⟩; obtain ⟨g2, cp2, rfl⟩ := own_some hv2 (by omega); have HV2 := hid hv2; have HB2 := hid (HBd.out.trans hb2); clear hv2 hb2)
          | (refine step_append_lies _ (by rfl) (.tmp 11) (.tmp 38) 110 (by rfl) w.heap.size 115 i0 (.agg #[.int .i64 0, .slice none 0 0]) 2 32 Tryd.underlying110 hinf hz0 hz1 hz2 (by rfl) (by decide) (.slice vo N'.length vc) N'.length (ndCells N') (by rfl) ((HB2.out.own HOW.out).alloc _) ⟨w2.heap.size, 0, none⟩ 1 1 [.int .i64 ((ya : Int) + yb), .slice (some ⟨g2, 0, none⟩) (ys.length + yt.length) cp2] (by rfl) rfl (own_two _ _ _ _) (by intro u hu; simp at hu; rcases hu with rfl | rfl <;> rfl) (by omega) (by unfold maxLen; omega) (by omega) (by have := HB2.out.size; simp only [World.size_alloc]; omega) (w2.heap.size + 1) (by simp) ?_; intro g5 cp5 w5 hown5 hgrow5 hat5 hlt5; have HO5 := hid hown5; have HG5 := hid hgrow5; have HB3 := hid ((hgrow5.block rb (by have := HB2.out.size; simp only [World.size_alloc]; omega) (fun e => by have := own_ge HOW.out e.symm; omega)).trans (((HB2.out.alloc _).block rb (by omega)))); clear hown5 hgrow5 hat5 hlt5))
      have HOA := hid ((HB2.out.own HOW.out).alloc (.cells #[.int .i64 ((ya : Int) + yb), .slice (some ⟨g2, 0, none⟩) (ys.length + yt.length) cp2] 115))
      have HB5 := hid (show Bw w w5 from Below.trans (Bw.trans HBW.out (HB2.out.alloc _)) (own_grownJ HOA.out HG5.out (by have := HB2.out.size; simp only [World.size_alloc]; omega)))
      have HM5 := hid (NodesM.grown (HM'.out.bw (HB2.out.alloc _)) HOA.out HG5.out)
      have HV3 : Hid (SymR X w2 ((ya : Int) + yb, some ⟨g2, 0, none⟩, ys.length + yt.length, cp2) (ys ++ yt)) := hid ⟨g2, cp2, by simp, by simp; omega, by rw [List.length_append, symCells, List.map_append]; exact own_base HV2.out (Nat.zero_le _), fun hx => by have h1 := HX.out _ hx; have h2 := own_ge HV2.out (b := g2) rfl; have h3 := HBd.out.size; omega⟩
      have HS5 := hid (SymR.grown (HV3.out.bw ((Bw.refl w2).alloc _)) HOA.out HG5.out)
      have HXI := hid (show (((2 * (j + 1) : Nat) : Int)) + 1 = (p : Int) + 1 + 2 by have := HP.out; omega)
      go_wp2
      go_roundw
      case rel =>
        refine ⟨j + 1, N' ++ [((ya : Int) + yb, some ⟨g2, 0, none⟩, ys.length + yt.length, cp2)], by have := HP.out; omega, congrArg (Value.int .i64) HXI.out.symm, ?_, ?_, HB5.out⟩
        · rw [List.length_append, ndCells_snoc]
          exact HO5.out
        · rw [HPS.out]
          exact HM5.out.snoc (by simp only; omega) HS5.out
      case measure => simp [intOf]; omega
    · have hnj : n ≤ 2 * j + 1 := by omega
      have hnji : ¬ ((2 * j : Nat) : Int) + 1 < n := by omega
      have HF := hid (prM_all M j (by rw [HML.out]; exact hnj))
      rw [HF.out] at HM'
      go_wp2
      go_ret
      exact ⟨_, rfl, N', HOW.out, HM'.out, HBW.out⟩
end Go.Proofs.YtacgnadhpgkcmaaDoor
/- lightest, at few nodes (contract of the function). -/
namespace Go.Proofs.YtacgnadhpgkcmaaDoor
open Go.RowKit Go.Conc
set_option linter.unusedVariables false
def mLt (x y : NdM) : Bool := decide (x.1 < y.1)
def sortM (M : List NdM) : List NdM := sortL mLt M
theorem insRev_congr {α : Type} {lt lt' : α → α → Bool} {x : α} : ∀ {r : List α}, (∀ y ∈ r, lt x y = lt' x y) → insRev lt x r = insRev lt' x r
  | [], _ => rfl
  | y :: r, h => by
    unfold insRev
    rw [h y (List.mem_cons_self ..), insRev_congr (fun z hz => h z (List.mem_cons_of_mem _ hz))]
theorem fold_congr {α : Type} {lt lt' : α → α → Bool} : ∀ {l r : List α}, (∀ x ∈ l, ∀ y, y ∈ l ∨ y ∈ r → lt x y = lt' x y) → l.foldl (fun r x => insRev lt x r) r = l.foldl (fun r x => insRev lt' x r) r
  | [], r, _ => rfl
  | x :: l, r, h => by
    rw [List.foldl_cons, List.foldl_cons, insRev_congr (lt' := lt') (fun y hy => h x (List.mem_cons_self ..) y (.inr hy))]
    refine fold_congr fun z hz y hy => h z (List.mem_cons_of_mem _ hz) y ?_
    rcases hy with hy | hy
    · exact .inl (List.mem_cons_of_mem _ hy)
    · rcases (insRev_mem lt' x r y).1 hy with e | e
      · exact .inl (by rw [e]; exact List.mem_cons_self ..)
      · exact .inr e
theorem sortL_congr {α : Type} {lt lt' : α → α → Bool} {l : List α} (h : ∀ x ∈ l, ∀ y ∈ l, lt x y = lt' x y) : sortL lt l = sortL lt' l := by
  unfold sortL
  rw [fold_congr (fun x hx y hy => h x hx y (hy.elim id (fun e => by simp at e)))]
/-- Nodes as pairs of where they lie and what they are. -/
def NodesZ (X : Nat → Prop) (W : World) (Z : List (Nd × NdM)) : Prop := ∀ z ∈ Z, z.1.1 = ((z.2.1 : Nat) : Int) ∧ SymR X W z.1 z.2.2
theorem NodesM.z {X : Nat → Prop} {W : World} {N : List Nd} {M : List NdM} (h : NodesM X W N M) : ∃ Z : List (Nd × NdM), Z.map Prod.fst = N ∧ Z.map Prod.snd = M ∧ NodesZ X W Z := by
  refine ⟨N.zip M, ?_, ?_, ?_⟩
  · rw [List.map_fst_zip]; exact Nat.le_of_eq h.1
  · rw [List.map_snd_zip]; exact Nat.le_of_eq h.1.symm
  · intro z hz
    obtain ⟨i, hi, rfl⟩ := List.getElem_of_mem hz
    rw [List.length_zip] at hi
    have := h.2 i (by omega) (by omega)
    simpa using this
theorem NodesZ.m {X : Nat → Prop} {W : World} {Z : List (Nd × NdM)} (h : NodesZ X W Z) : NodesM X W (Z.map Prod.fst) (Z.map Prod.snd) := by
  refine ⟨by simp, fun i h1 h2 => ?_⟩
  have hz : i < Z.length := by simpa using h1
  have := h Z[i] (List.getElem_mem hz)
  simpa using this
theorem NodesM.sort {X : Nat → Prop} {W : World} {N : List Nd} {M : List NdM} (h : NodesM X W N M) : NodesM X W (sortL ndLt N) (sortM M) := by
  obtain ⟨Z, rfl, rfl, hz⟩ := h.z
  have e1 : sortL ndLt (Z.map Prod.fst) = (sortL (fun z z' => ndLt z.1 z'.1) Z).map Prod.fst := (sortL_map Prod.fst (fun z z' => ndLt z.1 z'.1) ndLt (fun _ _ => rfl) Z).symm
  have e2 : sortM (Z.map Prod.snd) = (sortL (fun z z' => mLt z.2 z'.2) Z).map Prod.snd := (sortL_map Prod.snd (fun z z' => mLt z.2 z'.2) mLt (fun _ _ => rfl) Z).symm
  have e3 : sortL (fun z z' : Nd × NdM => ndLt z.1 z'.1) Z = sortL (fun z z' => mLt z.2 z'.2) Z := sortL_congr fun x hx y hy => by
    have a := (hz x hx).1
    have b := (hz y hy).1
    unfold ndLt mLt
    rw [decide_eq_decide, a, b]; omega
  rw [e1, e2, e3]
  exact NodesZ.m fun z hzz => hz z ((sortL_mem _ _ _).1 hzz)
theorem NodesM.append {X : Nat → Prop} {W : World} {N N' : List Nd} {M M' : List NdM} (h : NodesM X W N M) (h' : NodesM X W N' M') : NodesM X W (N ++ N') (M ++ M') := by
  obtain ⟨Z, rfl, rfl, hz⟩ := h.z
  obtain ⟨Z', rfl, rfl, hz'⟩ := h'.z
  rw [← List.map_append, ← List.map_append]
  refine NodesZ.m fun z hzz => ?_
  rcases List.mem_append.1 hzz with e | e
  · exact hz z e
  · exact hz' z e
theorem NodesM.take {X : Nat → Prop} {W : World} {N : List Nd} {M : List NdM} (h : NodesM X W N M) (n : Nat) : NodesM X W (N.take n) (M.take n) := by
  obtain ⟨Z, rfl, rfl, hz⟩ := h.z
  rw [← List.map_take, ← List.map_take]
  exact NodesZ.m fun z hzz => hz z (List.mem_of_mem_take hzz)
theorem ndCells_append (N N' : List Nd) : ndCells (N ++ N') = ndCells N ++ ndCells N' := by simp [ndCells]
/-- What lightest's list is behind so many rounds. -/
def lvlM (M : List NdM) : Nat → List NdM
  | 0 => sortM M
  | k + 1 => sortM (M ++ prM (lvlM M k))
theorem lvlM_len (M : List NdM) : ∀ k, M.length ≤ (lvlM M k).length ∧ (lvlM M k).length ≤ 2 * M.length
  | 0 => by
    show _ ≤ (sortL mLt M).length ∧ (sortL mLt M).length ≤ _
    rw [sortL_len]; omega
  | k + 1 => by
    have := lvlM_len M k
    show _ ≤ (sortL mLt (M ++ prM (lvlM M k))).length ∧ (sortL mLt (M ++ prM (lvlM M k))).length ≤ _
    rw [sortL_len, List.length_append, prM_len]; omega
/-- Bounds on a node. -/
def Bnd (k : Nat) (m : NdM) : Prop := m.1 ≤ 1099511627776 * 2 ^ k ∧ m.2.length ≤ 2 ^ k
theorem prM_mem : ∀ (M : List NdM) (k : Nat), (∀ m ∈ M, Bnd k m) → ∀ m ∈ prM M, Bnd (k + 1) m
  | [], _, _, m, hm => by simp [prM] at hm
  | [x], _, _, m, hm => by simp [prM] at hm
  | a :: b :: r, k, h, m, hm => by
    have ha := h a (by simp)
    have hb := h b (by simp)
    have hm2 : m = (a.1 + b.1, a.2 ++ b.2) ∨ m ∈ prM r := by simpa [prM] using hm
    rcases hm2 with rfl | hm
    · unfold Bnd at *
      simp only [List.length_append]
      rw [Nat.pow_succ]; omega
    · exact prM_mem r k (fun x hx => h x (by simp [hx])) m hm
theorem lvlM_bnd (M : List NdM) (h : ∀ m ∈ M, Bnd 0 m) : ∀ k, ∀ m ∈ lvlM M k, Bnd k m
  | 0, m, hm => h m ((sortL_mem mLt M m).1 hm)
  | k + 1, m, hm => by
    have := (sortL_mem mLt _ m).1 hm
    rcases List.mem_append.1 this with e | e
    · have := h m e
      unfold Bnd at *
      have hp := Nat.two_pow_pos (k + 1)
      have hp2 : 2 ^ (k + 1) ≥ 1 := hp
      have h3 : 1099511627776 * 2 ^ 0 ≤ 1099511627776 * 2 ^ (k + 1) := Nat.mul_le_mul_left _ (by simpa using hp2)
      have h4 : (2 : Nat) ^ 0 ≤ 2 ^ (k + 1) := by simpa using hp2
      exact ⟨Nat.le_trans this.1 h3, Nat.le_trans this.2 h4⟩
    · exact prM_mem _ k (lvlM_bnd M h k) m e
end Go.Proofs.YtacgnadhpgkcmaaDoor
/- lightest, at few nodes (contract of the function). -/
namespace Go.Proofs.YtacgnadhpgkcmaaDoor
open Go.RowKit Go.Conc
set_option linter.unusedVariables false
theorem asc_any (B rb cap n : Nat) (N : List Nd) (hn : Hid (N.length = n)) (h2 : 2 ≤ n) (h19 : n < 20) (w : World) (hB : B ≤ w.heap.size) (h : w.ownsRow B 115 2 (.slice (some ⟨rb, 0, none⟩) n cap) n (ndCells N)) :
    Calls Tryd.prog 61 #[.slice (some ⟨rb, 0, none⟩) n cap] w fun e w' => e = .returned (.slice (some ⟨rb, 0, none⟩) n cap) ∧ w'.ownsRow B 115 2 (.slice (some ⟨rb, 0, none⟩) n cap) n (ndCells (sortL ndLt N)) ∧ Below B w w' := by
  have := asc_some B rb cap n N hn h2 h19 w hB h
  rwa [show sortA N = sortL ndLt N from sort_list ndLt N] at this
theorem own_take {w : World} {B t size g n n' cap : Nat} {xs : List Value} (h : w.ownsRow B t size (.slice (some ⟨g, 0, none⟩) n cap) n xs) (hn : n' ≤ n) : w.ownsRow B t size (.slice (some ⟨g, 0, none⟩) n' cap) n' (xs.take (n' * size)) := by
  have hl := h.1
  obtain ⟨cur, hg, hge, h1, h2, h3, h4⟩ := ownp_row h
  have hm : n' * size ≤ n * size := Nat.mul_le_mul_right _ hn
  refine ⟨by rw [List.length_take, hl]; omega, .inr ⟨g, cap, cur, rfl, hge, hg, by omega, h2, h3, ?_⟩⟩
  rw [← h4, List.take_take, Nat.min_eq_left hm]
theorem ndCells_take (N : List Nd) : ∀ n, (ndCells N).take (n * 2) = ndCells (N.take n) := by
  induction N with
  | nil => intro n; simp [ndCells]
  | cons x N ih =>
    intro n
    cases n with
    | zero => simp [ndCells]
    | succ n =>
      have e : ndCells (x :: N) = .int .i64 x.1 :: ndV x :: ndCells N := rfl
      rw [e, show (n + 1) * 2 = n * 2 + 1 + 1 by omega, List.take_succ_cons, List.take_succ_cons, ih n]
      rfl
set_option maxRecDepth 100000 in
set_option maxHeartbeats 8000000 in
theorem lightest_few (B0 g0 c0 n most : Nat) (N0 : List Nd) (M : List NdM) (hn : Hid (N0.length = n)) (h2 : 2 ≤ n) (h9 : n ≤ 9) (hm1 : 1 ≤ most) (hm15 : most ≤ 15) (hbd : ∀ m ∈ M, Bnd 0 m) (X : Nat → Prop) (w : World) (hX : ∀ g, X g → g < w.heap.size) (h : w.ownsRow B0 115 2 (.slice (some ⟨g0, 0, none⟩) n c0) n (ndCells N0)) (hM : NodesM X w N0 M)
    (hfit : 2 * n - 2 ≤ (lvlM M (most - 1)).length) :
    Calls Tryd.prog 57 #[.slice (some ⟨g0, 0, none⟩) n c0, .int .i64 most] w fun e w' => ∃ (v : Value) (N : List Nd), e = .returned v ∧ w'.ownsRow w.heap.size 115 2 v N.length (ndCells N) ∧ NodesM X w' N ((lvlM M (most - 1)).take (2 * n - 2)) ∧ Bw w w' := by
  have hlM : M.length = n := by rw [← hM.1]; exact hn.out
  have HLM := hid hlM
  have HO := hid h
  have HM := hid hM
  have HBD := hid hbd
  have HCL := hid (clone_nd B0 g0 c0 n (ndCells N0) (by omega) (by omega) (nd_one N0) w h)
  have hcap := ownp_cap h
  have HX := hid hX
  clear h hM hbd hlM hX
  go_enter Tryd.func57, Tryd.ntmps57
  go_wp2_with fail
  refine HCL.out.mono ?_
  rintro e w1 ⟨v, rfl, hv, hb⟩
  obtain ⟨r1, cp1, rfl⟩ := own_some hv (by omega)
  have HV1 := hid hv
  have HB1 := hid hb
  have hb1 := hb.size
  clear hv hb HCL
  go_wp2_with fail
  refine (asc_any w.heap.size r1 cp1 n N0 hn h2 (by omega) _ hb1 HV1.out).mono ?_
  rintro e w2 ⟨rfl, hv, hb⟩
  have HV2 := hid hv
  have HB2 := hid (show Bw w w2 from Below.trans HB1.out hb)
  have hb2 := HB2.out.size
  clear hv hb
  have HM2 := hid ((HM.out.bw HB2.out).sort)
  have HSL := hid (sortL_len ndLt N0)
  go_wp2_with fail
  go_loopw [5, 11] (fun v i wr => ∃ (k m rb cp : Nat) (N : List Nd), k ≤ most - 1 ∧ i = .int .i64 k ∧ v = .slice (some ⟨rb, 0, none⟩) m cp ∧ N.length = m ∧ n ≤ m ∧ m ≤ 2 * n ∧ wr.ownsRow w.heap.size 115 2 v m (ndCells N) ∧ NodesM X wr N (lvlM M k) ∧ Bw w wr) (fun _ i _ => most - (intOf i).toNat)
  case atStart => exact ⟨0, n, r1, cp1, sortL ndLt N0, Nat.zero_le _, rfl, rfl, by rw [HSL.out, hn.out], Nat.le_refl _, by omega, HV2.out, HM2.out, HB2.out⟩
  case round =>
    clear HV2 HB2 HM2 HB1 HV1
    obtain ⟨k, m, rb, cp, N, hk, rfl, rfl, hNm, hm1', hm2, hown, hMk, hbw⟩ := hrel
    have HV := hid hown
    have HMK := hid hMk
    have HBW := hid hbw
    have HNM := hid hNm
    have hbz := hbw.size
    have hcp := ownp_cap hown
    clear hown hMk hbw hNm
    by_cases hlt : k < most - 1
    · have hlti : (k : Int) < (most : Int) - 1 := by omega
      have hbk := lvlM_bnd M HBD.out k
      have hp15 : 2 ^ k ≤ 2 ^ 15 := Nat.pow_le_pow_right (by decide) (by omega)
      have HP := hid (pairs_any w.heap.size rb cp m N (lvlM M k) HNM (by omega) (fun x hx => by have := (hbk x hx).1; have h3 : 1099511627776 * 2 ^ k ≤ 1099511627776 * 2 ^ 15 := Nat.mul_le_mul_left _ hp15; omega) (fun x hx => by have := (hbk x hx).2; omega) X wr (fun g hg => Nat.lt_of_lt_of_le (HX.out g hg) hbz) hbz HV.out HMK.out)
      clear hbk hp15
      go_wp2_with fail
      refine HP.out.mono ?_
      rintro e w3 ⟨v3, N3, rfl, hv3, hM3, hb3⟩
      have hN3 : N3.length = m / 2 := by rw [hM3.1, prM_len, ← HMK.out.1, HNM.out]
      obtain ⟨m3, hm3⟩ : ∃ m3, N3.length = m3 := ⟨_, rfl⟩
      rw [hm3] at hv3 hN3
      have h31 : 1 ≤ m3 := by omega
      have h32 : m3 ≤ n := by omega
      clear hN3
      obtain ⟨r3, cp3, rfl⟩ := own_some hv3 (by omega)
      have HM3E := hid hm3
      have HV3 := hid hv3
      have HM3 := hid hM3
      have HB3 := hid (HBW.out.trans hb3)
      clear hv3 hM3 hb3 hm3 HP
      go_wp2_with fail
      have HA := hid (Has.new w3 110 #[.slice (some ⟨g0, 0, none⟩) n c0, .slice (some ⟨r3, 0, none⟩) m3 cp3])
      have HBA := hid (((Bw.refl w3).alloc (.cells #[.slice (some ⟨g0, 0, none⟩) n c0, .slice (some ⟨r3, 0, none⟩) m3 cp3] 110)))
      have hl0 : N0.length = n := hn.out
      refine (concat_nd w3.heap.size B0 g0 c0 n wr.heap.size r3 cp3 m3 (ndCells N0) (ndCells N3) (by omega) (by omega) (by omega) (nd_one N0) (nd_one N3) _ HA.out (HBA.out.own (HB3.out.own HO.out)) (HBA.out.own HV3.out)).mono ?_
      rintro e w4 ⟨v4, rfl, hv4, hb4⟩
      obtain ⟨r4, cp4, rfl⟩ := own_some hv4 (by omega)
      rw [← ndCells_append, World.size_alloc] at hv4
      have HV4 := hid hv4
      have HB4 := hid (HBA.out.trans hb4)
      have hb4z := hb4.size
      rw [World.size_alloc] at hb4z
      clear hv4 hb4 hl0
      have HN4 := hid (show (N0 ++ N3).length = n + m3 by rw [List.length_append, hn.out, HM3E.out])
      go_wp2_with fail
      have ha := asc_any (w3.heap.size + 1) r4 cp4 (n + m3) (N0 ++ N3) HN4 (by omega) (by omega) w4 hb4z HV4.out
      refine ha.mono ?_
      clear ha
      rintro e w5 ⟨rfl, hv5, hb5⟩
      have HV5 := hid hv5
      have HB5 := hid (show Bw w3 w5 from Below.trans HB4.out (Below.mono hb5 (by omega)))
      clear hv5 hb5
      have HM5 := hid ((((HM.out.bw HB3.out).bw HB5.out).append (HM3.out.bw HB5.out)).sort)
      have HS5 := hid (sortL_len ndLt (N0 ++ N3))
      have hw3 := HB3.out.size
      go_wp2
      go_roundw
      case rel => exact ⟨k + 1, n + m3, r4, cp4, sortL ndLt (N0 ++ N3), by omega, by go_num, rfl, by rw [HS5.out, HN4.out], by omega, by omega, own_base HV5.out (by omega), HM5.out, HB3.out.trans HB5.out⟩
      case measure => simp [intOf]; omega
    · have hke : k = most - 1 := by omega
      have hki : ¬ (k : Int) < (most : Int) - 1 := by omega
      have HKE := hid hke
      have hmk : m = (lvlM M k).length := by rw [← HMK.out.1]; exact HNM.out.symm
      have hf2 : 2 * n - 2 ≤ m := by rw [hmk, hke]; exact hfit
      have HT := hid (own_take HV.out hf2)
      have HNT := hid (HMK.out.take (2 * n - 2))
      have hl2 : (N.take (2 * n - 2)).length = 2 * n - 2 := by rw [List.length_take, HNM.out]; omega
      have HL2 := hid hl2
      have hcx : ((2 * n - 2 : Nat) : Int) = 2 * (n : Int) - 2 := by omega
      have hi1 : 2 * (n : Int) - 2 ≤ cp := by omega
      have hi2 : (0 : Int) ≤ 2 * (n : Int) - 2 := by omega
      have hi3 : (2 * (n : Int) - 2).toNat = 2 * n - 2 := by omega
      clear hke hmk hl2 hcx
      go_wp2
      go_ret
      refine ⟨_, rfl, N.take (2 * n - 2), ?_, ?_, HBW.out⟩
      · rw [HL2.out, ← ndCells_take]
        exact HT.out
      · rw [← HKE.out]; exact HNT.out
end Go.Proofs.YtacgnadhpgkcmaaDoor
/- Lengths, at few symbols (contract of the function). -/
namespace Go.Proofs.YtacgnadhpgkcmaaDoor
open Go.RowKit Go.Conc
set_option linter.unusedVariables false
def lenArr (F : List Nat) (len : Nat) : Array Value := ((List.range len).map fun i => Value.int .i64 (F.count i : Nat)).toArray
theorem lenArr_get (F : List Nat) (len i : Nat) (h : i < len) : (lenArr F len)[i]? = some (.int .i64 (F.count i : Nat)) := by simp [lenArr, h]
theorem lenArr_zero (l : List Int) (n : Nat) : cArr l n 0 = lenArr [] n := by
  unfold cArr lenArr
  congr 2
theorem lenArr_put (F : List Nat) (len s : Nat) (h : s < len) : (lenArr F len).setIfInBounds s (.int .i64 (F.count s + 1 : Nat)) = lenArr (F ++ [s]) len := by
  apply Array.ext_getElem?
  intro i
  have hsz : (lenArr F len).size = len := by simp [lenArr]
  rw [Array.getElem?_setIfInBounds, hsz]
  by_cases hi : i < len
  · rw [lenArr_get (F ++ [s]) len i hi, List.count_append]
    by_cases e : s = i
    · subst e; rw [if_pos rfl, if_pos h]; simp
    · rw [if_neg e, lenArr_get F len i hi]; simp [e]
  · rw [if_neg (by omega), Array.getElem?_eq_none (by rw [hsz]; omega), Array.getElem?_eq_none (by simp [lenArr]; omega)]
def SymLt (n : Nat) (M : List NdM) : Prop := ∀ m ∈ M, ∀ s ∈ m.2, s < n
theorem lvM_sym (l : List Int) : ∀ k, SymLt k (lvM l k)
  | 0 => fun m hm => by simp [lvM] at hm
  | k + 1 => fun m hm s hs => by
    unfold lvM at hm
    split at hm
    · rcases List.mem_append.1 hm with e | e
      · have := lvM_sym l k m e s hs; omega
      · simp only [List.mem_singleton] at e
        subst e
        simp at hs; omega
    · have := lvM_sym l k m hm s hs; omega
theorem prM_sym (n : Nat) : ∀ M : List NdM, SymLt n M → SymLt n (prM M)
  | [], _ => fun m hm => by simp [prM] at hm
  | [x], _ => fun m hm => by simp [prM] at hm
  | a :: b :: r, h => fun m hm s hs => by
    have hm2 : m = (a.1 + b.1, a.2 ++ b.2) ∨ m ∈ prM r := by simpa [prM] using hm
    rcases hm2 with rfl | hm
    · rcases List.mem_append.1 hs with e | e
      · exact h a (by simp) s e
      · exact h b (by simp) s e
    · exact prM_sym n r (fun x hx => h x (by simp [hx])) m hm s hs
theorem lvlM_sym {n : Nat} {M : List NdM} (h : SymLt n M) : ∀ k, SymLt n (lvlM M k)
  | 0 => fun m hm => h m ((sortL_mem mLt M m).1 hm)
  | k + 1 => fun m hm => by
    have := (sortL_mem mLt _ m).1 hm
    rcases List.mem_append.1 this with e | e
    · exact h m e
    · exact prM_sym n _ (lvlM_sym h k) m e
/-- The symbols of the nodes that are chosen. -/
def chosen (M : List NdM) (most : Nat) : List NdM := (lvlM M (most - 1)).take (2 * M.length - 2)
def flatS (C : List NdM) : List Nat := C.flatMap Prod.snd
theorem flatS_snoc (C : List NdM) (k : Nat) (h : k < C.length) : flatS (C.take (k + 1)) = flatS (C.take k) ++ C[k].2 := by
  rw [List.take_succ_eq_append_getElem h]
  unfold flatS
  rw [List.flatMap_append]
  simp only [List.flatMap_cons, List.flatMap_nil, List.append_nil]
theorem flatS_len (B : Nat) : ∀ C : List NdM, (∀ m ∈ C, m.2.length ≤ B) → (flatS C).length ≤ C.length * B
  | [], _ => by simp [flatS]
  | m :: C, h => by
    have h1 := flatS_len B C (fun x hx => h x (by simp [hx]))
    have h2 := h m (by simp)
    have e : flatS (m :: C) = m.2 ++ flatS C := rfl
    rw [e, List.length_append, List.length_cons, Nat.add_mul, Nat.one_mul]; omega
theorem big_cnt {c f m j y k n : Nat} (h1 : c ≤ f + m) (h2 : m ≤ j) (h3 : f ≤ k * 16384) (h4 : j < y) (h5 : y ≤ 16384) (h6 : k ≤ n) (h7 : n ≤ 16) : c < 4611686018427387904 := by omega
theorem lvM_bnd (l : List Int) (h : ∀ x ∈ l, oftB x = true) : ∀ k, k ≤ l.length → ∀ m ∈ lvM l k, Bnd 0 m
  | 0, _, m, hm => by simp [lvM] at hm
  | k + 1, hk, m, hm => by
    unfold lvM at hm
    split at hm
    · rcases List.mem_append.1 hm with e | e
      · exact lvM_bnd l h k (by omega) m e
      · simp only [List.mem_singleton] at e
        subst e
        have hx := of_decide_eq_true (h l[k] (List.getElem_mem hk))
        have hg : l.getD k 0 = l[k] := by simp [List.getD, show k < l.length from hk]
        unfold Bnd
        rw [hg]
        refine ⟨by simp only; omega, by simp⟩
    · exact lvM_bnd l h k (by omega) m hm
set_option maxRecDepth 100000 in
set_option maxHeartbeats 8000000 in
theorem lengths_few (a : Option Addr) (len cap most n : Nat) (l : List Int) (hll : Hid (l.length = len)) (h320 : len ≤ 320) (hok : ∀ x ∈ l, oftB x = true) (hm1 : 1 ≤ most) (hm15 : most ≤ 15) (hn : (lvM l len).length = n) (h2 : 2 ≤ n) (h9 : n ≤ 9) (hpow : n ≤ 2 ^ most)
    (hfit : 2 * n - 2 ≤ (lvlM (lvM l len) (most - 1)).length) (w : World) (hst : ZsAt w a l) :
    Calls Tryd.prog 42 #[.slice a len cap, .int .i64 most] w fun e w' => ∃ rb : Nat, e = .returned (.tuple #[.slice (some ⟨rb, 0, none⟩) len len, .int .i64 0]) ∧ w.heap.size ≤ rb ∧ Has w' rb 3 (lenArr (flatS (chosen (lvM l len) most)) len) ∧ Bw w w' := by
  have HL := hid (leaves_ok a len cap l hll h320 hok w hst)
  have HN := hid hn
  have HF := hid hfit
  have hbd := lvM_bnd l hok len (by rw [hll.out]; exact Nat.le_refl _)
  have HBD := hid hbd
  have HSY := hid (lvlM_sym (lvM_sym l len) (most - 1))
  have hpi : (n : Int) ≤ 2 ^ most := by
    have : ((2 ^ most : Nat) : Int) = (2 : Int) ^ most := by simp
    omega
  have hwp : wrap64 ((2 : Int) ^ most) = 2 ^ most := by
    have h1 : ((2 ^ most : Nat) : Int) = (2 : Int) ^ most := by simp
    have h3 : 2 ^ most ≤ 2 ^ 15 := Nat.pow_le_pow_right (by decide) hm15
    have h4 := Nat.two_pow_pos most
    unfold wrap64; omega
  have hpj : (n : Int) ≤ wrap64 ((2 : Int) ^ most) := by rw [hwp]; exact hpi
  have hlni : (len : Int) ≤ 320 := by omega
  have d1 : decide ((most : Int) < 1) = false := decide_eq_false (by omega)
  have d2 : decide (15 < (most : Int)) = false := decide_eq_false (by omega)
  have d3 : decide (320 < (len : Int)) = false := decide_eq_false (by omega)
  have d4 : decide (wrap64 ((2 : Int) ^ most) < (n : Int)) = false := decide_eq_false (by omega)
  clear hwp
  have hmk := fun W => make_ints l len h320 W
  clear hok hst hfit hbd hn
  go_enter Tryd.func42, Tryd.ntmps42
  go_wp2_with fail
  refine HL.out.mono ?_
  rintro e w1 ⟨v, N, rfl, hv, hM, hb⟩
  obtain ⟨nn, hnn⟩ : ∃ nn, N.length = nn := ⟨_, rfl⟩
  have hne : nn = n := by rw [← hnn, hM.1]; exact HN.out
  rw [hnn, hne] at hv
  obtain ⟨g0, c0, rfl⟩ := own_some hv (by omega)
  have HV := hid hv
  have HB1 := hid hb
  have HNN := hid (hnn.trans hne)
  have HM := hid hM
  clear hv hb hM hnn hne HL
  go_wp2_with fail
  have HLB := hid (Has.new w1 3 (cArr l len 0))
  have HBA := hid ((Bw.refl w1).alloc (.cells (cArr l len 0) 3))
  have hML : (lvM l len).length = n := HN.out
  have HX := hid (fun g (h : g = w1.heap.size) => Nat.le_of_eq h.symm)
  refine (lightest_few w.heap.size g0 c0 n most N (lvM l len) HNN h2 h9 hm1 hm15 HBD.out (· = w1.heap.size) _ (fun g hg => by rw [hg]; simp) (HV.out.alloc _) ((HM.out.fresh HX.out).bw HBA.out) HF.out).mono ?_
  rintro e w2 ⟨v2, N2, rfl, hv2, hM2, hb2⟩
  rw [World.size_alloc] at hv2
  obtain ⟨v2a, v2c, rfl⟩ := own_slice hv2
  have hC : ((lvlM (lvM l len) (most - 1)).take (2 * n - 2)) = chosen (lvM l len) most := by unfold chosen; rw [hML]
  rw [hC] at hM2
  have HSC := hid (fun m (hm : m ∈ chosen (lvM l len) most) => HSY.out m (List.mem_of_mem_take hm))
  have HBC := hid (fun m (hm : m ∈ chosen (lvM l len) most) => Nat.le_trans (lvlM_bnd _ HBD.out (most - 1) m (List.mem_of_mem_take hm)).2 (Nat.pow_le_pow_right (show 0 < 2 by decide) (show most - 1 ≤ 14 by omega)))
  have hCn : (chosen (lvM l len) most).length ≤ 2 * n - 2 := by unfold chosen; rw [hML]; exact List.length_take_le _ _
  have HV2 := hid hv2
  have HM2 := hid hM2
  have HB2 := hid hb2
  have HLB2 := hid (hb2.has HLB.out)
  rw [lenArr_zero] at HLB2
  obtain ⟨n2, hn2⟩ : ∃ n2, N2.length = n2 := ⟨_, rfl⟩
  have hCl : (chosen (lvM l len) most).length = n2 := by rw [← hM2.1]; exact hn2
  have HCL := hid hCl
  have hn18 : n2 ≤ 16 := by rw [hCl] at hCn; omega
  have HN2 := hid hn2
  rw [hn2] at HV2 ⊢
  have hb2z := hb2.size
  rw [World.size_alloc] at hb2z
  clear hCn hv2 hM2 hb2 hC hML hCl hn2 HSY HF HM HV HBD
  obtain ⟨lb, hlb⟩ : ∃ lb, w1.heap.size = lb := ⟨_, rfl⟩
  have hw1b := HB1.out.size
  rw [hlb] at hb2z HV2 HLB2 HM2 hw1b ⊢
  have HLBE := hid hlb
  have HBW := hid (show Bw w w2 from HB1.out.trans (HBA.out.trans HB2.out))
  clear hlb HLB HBA HB2
  generalize hCe : chosen (lvM l len) most = C at *
  have HCE := hid hCe
  clear hCe
  have hw2z : lb < w2.heap.size := by omega
  go_wp2_with fail
  go_loopw [45] (fun i wr => ∃ (k : Nat), k ≤ n2 ∧ i = .int .i64 k ∧ Has wr lb 3 (lenArr (flatS (C.take k)) len) ∧ Keeps (· = lb) w2 wr) (fun i _ => n2 - (intOf i).toNat)
  case atStart => exact ⟨0, Nat.zero_le _, rfl, HLB2.out, Keeps.refl _ _⟩
  case round =>
    obtain ⟨k, hk, rfl, hlb, hkp⟩ := hrel
    have HLBK := hid hlb
    have HKP := hid hkp
    have hkz := hkp.size
    clear hlb
    by_cases hlt : k < n2
    · have hlti : (k : Int) < n2 := by omega
      obtain ⟨rb2, cp2, hv2⟩ := own_some HV2.out (by omega)
      obtain ⟨rfl, rfl⟩ : v2a = some ⟨rb2, 0, none⟩ ∧ v2c = cp2 := by simpa using hv2
      have hkN : k < N2.length := by rw [HN2.out]; exact hlt
      have hkC : k < C.length := by rw [HCL.out]; exact hlt
      have hr2 := own_ge HV2.out (b := rb2) rfl
      have hrl := own_lt HV2.out (b := rb2) rfl
      obtain ⟨hwt, g, cp, hsy, hsp, hsr, hsx⟩ := HM2.out.2 k hkN hkC
      have hnc := flat2_get ndE (fun _ => rfl) N2 k
      have x0 := (World.cell?_of_block (hkp.block rb2 hrl (show ¬ rb2 = lb by omega))).trans (ownp_cell HV2.out (hnc 0 hkN (by omega)))
      have x1 := (World.cell?_of_block (hkp.block rb2 hrl (show ¬ rb2 = lb by omega))).trans (ownp_cell HV2.out (hnc 1 hkN (by omega)))
      have HFS := hid (flatS_snoc C k hkC)
      have hyl : (C[k]).2.length ≤ 16384 := HBC.out C[k] (List.getElem_mem hkC)
      have hFl : (flatS (C.take k)).length ≤ k * 16384 := by
        have h1 := flatS_len 16384 (C.take k) (fun m hm => HBC.out m (List.mem_of_mem_take hm))
        rw [List.length_take] at h1
        have : min k C.length ≤ k := Nat.min_le_left _ _
        have h3 : min k C.length * 16384 ≤ k * 16384 := Nat.mul_le_mul_right _ this
        omega
      have hsl := HSC.out C[k] (List.getElem_mem hkC)
      generalize N2[k] = x at *
      generalize C[k] = y at *
      obtain ⟨xw, xs⟩ := x
      obtain ⟨yw, ys⟩ := y
      simp only at hwt hsy hsp hsr hsl HFS hyl
      subst hwt hsy
      have y0 : wr.cell? ⟨rb2, k * 2, none⟩ = some (.int .i64 (yw : Nat)) := by rw [Nat.mul_comm]; exact x0
      have y1 : wr.cell? ⟨rb2, k * 2 + 1, none⟩ = some (.slice (some ⟨g, 0, none⟩) ys.length cp) := by rw [Nat.mul_comm]; exact x1
      clear x0 x1
      have HSL := hid hsl
      have HSR := hid hsr
      have hgl := own_lt hsr (b := g) rfl
      have hsx2 : ¬ g = lb := hsx
      clear hnc hsl hsr hkN hkC hkp hsx hv2
      go_wp2_with fail
      have HL4 := hid (HLBK.out.alloc (.cells #[.int .i64 (yw : Nat), .slice (some ⟨g, 0, none⟩) ys.length cp] 115))
      have HK4 := hid (HKP.out.alloc (.cells #[.int .i64 (yw : Nat), .slice (some ⟨g, 0, none⟩) ys.length cp] 115))
      generalize flatS (C.take k) = F at *
      go_loopw [52] (fun i wq => ∃ (j : Nat), j ≤ ys.length ∧ i = .int .i64 j ∧ Has wq lb 3 (lenArr (F ++ ys.take j) len) ∧ Keeps (· = lb) w2 wq) (fun i _ => ys.length - (intOf i).toNat)
      case atStart => exact ⟨0, Nat.zero_le _, rfl, by rw [List.take_zero, List.append_nil]; exact HL4.out, HK4.out⟩
      case round =>
        obtain ⟨j, hj, rfl, hlb, hkp⟩ := hrel
        rename World => wq
        have HLBJ := hid hlb
        have HKJ := hid hkp
        by_cases hjl : j < ys.length
        · have hjli : (j : Int) < ys.length := by omega
          have z0 : (symCells ys)[j]? = some (.int .i64 (ys[j] : Nat)) := by simp [symCells, hjl]
          have y2 := (World.cell?_of_block (hkp.block g hgl hsx2)).trans (ownp_cell HSR.out z0)
          have hs := HSL.out ys[j] (List.getElem_mem hjl)
          have hts : ys.take (j + 1) = ys.take j ++ [ys[j]] := List.take_succ_eq_append_getElem hjl
          have HTS := hid hts
          clear z0 hts
          generalize ys[j] = sy at *
          have hsi : (sy : Int) < len := by omega
          have cl := (hlb.cell sy).trans (lenArr_get (F ++ ys.take j) len sy hs)
          have fl := hlb.frozen sy
          have hcb : (F ++ ys.take j).count sy ≤ (F ++ ys.take j).length := List.count_le_length
          rw [List.length_append, List.length_take] at hcb
          have hmin : min j ys.length ≤ j := Nat.min_le_left _ _
          have HP := hid (hlb.put sy (.int .i64 ((F ++ ys.take j).count sy + 1 : Nat)))
          rw [lenArr_put (F ++ ys.take j) len sy hs, List.append_assoc, ← HTS.out] at HP
          have HPK := hid (hkp.setCell (p := ⟨lb, sy, none⟩) (.inl rfl) (.int .i64 ((F ++ ys.take j).count sy + 1 : Nat)))
          have hbig : (F ++ ys.take j).count sy < 4611686018427387904 := big_cnt hcb hmin hFl hjl hyl hk hn18
          clear hcb hlb hkp hmin
          generalize (F ++ ys.take j).count sy = cn at *
          go_wp2
          refine ⟨⟨j + 1, by omega, by go_num, by simpa using HP.out, by simpa using HPK.out⟩, by simp [intOf]; omega⟩
        · obtain rfl : j = ys.length := by omega
          rw [List.take_length, ← HFS.out] at HLBJ
          go_wp2
          go_roundw
          case rel => exact ⟨k + 1, by omega, by go_num, HLBJ.out, HKJ.out⟩
          case measure => simp [intOf]; omega
    · obtain rfl : k = n2 := by omega
      have hT : C.take k = C := List.take_of_length_le (by rw [HCL.out]; exact Nat.le_refl _)
      rw [hT] at HLBK
      clear hT hkp
      go_wp2
      go_returns
      exact ⟨lb, rfl, hw1b, by rw [HCE.out]; exact HLBK.out, Below.trans HBW.out (HKP.out.below (by have := HBW.out.size; omega) (fun i hi => by omega))⟩
end Go.Proofs.YtacgnadhpgkcmaaDoor
