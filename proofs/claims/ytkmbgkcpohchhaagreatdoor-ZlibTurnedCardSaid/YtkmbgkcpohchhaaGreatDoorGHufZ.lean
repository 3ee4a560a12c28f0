import Derived.Test.YtkmbgkcpohchhaaGreatDoorGDefN
import Derived.Lib.AppendZerosOnto
import Derived.Lib.LazyBuf
import Derived.Test.YtkmbgkcpohchhaaGreatDoorGInfP
import Derived.Test.YtkmbgkcpohchhaaGreatDoorGHufG
import Derived.Deep.RegionHeld3
import Derived.IntWalk
import Derived.Deep.AppendLies
namespace Go.Proofs.YtkmbgkcpohchhaaGreatDoor
open Go.RowKit Go.Lib
set_option linter.unusedVariables false
theorem infond : (Tryz.prog.info? 179).map (fun i => (i.zero, i.size, i.bytes)) = some (some (.agg #[.int .i64 0, .slice none 0 0]), 2, 32) := by kernel_rfl
theorem infozs : (Tryz.prog.info? 3).map (fun i => (i.zero, i.size, i.bytes)) = some (some (.int .i64 0), 1, 8) := by kernel_rfl
set_option maxRecDepth 100000 in
set_option maxHeartbeats 4000000 in
theorem grow_nd (m : Nat) (h0 : 0 < m) (hm : m ≤ 1000000) (w : World) :
    Calls Tryz.prog 147 #[.slice none 0 0, .int .i64 m] w fun e w' => ∃ v, e = .returned v ∧ w'.ownsRow w.heap.size 179 2 v 0 [] ∧ Bw w w' := by
  obtain ⟨i0, hinf, hz0, hz1, hz2⟩ := info_parts infond
  obtain ⟨G, hG⟩ : ∃ G, G = grownCap w m 0 179 := ⟨_, rfl⟩
  have hge : m ≤ G := by rw [hG]; exact grownCap_ge _ _ _ _
  have hold : (Builtin.firstCells i0.size 0 (.slice none 0 0)).run Tryz.prog w.drew = .ok (([] : List Value).toArray) w.drew := by rfl
  have hcapm : G ≤ maxLen := by rw [hG]; exact grownCap_le_maxLen w _ _ _ (by unfold maxLen; omega)
  have hrz : ∀ ty, (Builtin.append_ #[174, 3] ty #[.slice none 0 0, .int .i64 (m : Int)]).run Tryz.prog w = .ok (.slice (some ⟨w.heap.size, 0, none⟩) m G) (w.drew.alloc (.cells (([] : List Value).toArray ++ Builtin.zeroCells (.agg #[.int .i64 0, .slice none 0 0] : Value).cells m ++ Builtin.zeroCells (.agg #[.int .i64 0, .slice none 0 0] : Value).cells (G - m)) 179)) := fun ty => by
    have h := Lib.run_append_grow_zeros (P := Tryz.prog) w 174 3 ty 179 i0 _ .i64 .i64 Tryz.underlying174 Tryz.underlying3 hinf hz0 none 0 0 [] hold m h0 (by rw [hz1]; decide) (by omega) (by omega) (by rw [hz2]; omega) (by rw [hz2]; exact growslice_fits (by omega) (by omega))
    rw [Nat.zero_add, ← hG] at h
    exact h
  obtain ⟨ROW, hROW⟩ : ∃ ROW : Array Value, ROW = ([] : List Value).toArray ++ Builtin.zeroCells (.agg #[.int .i64 0, .slice none 0 0] : Value).cells m ++ Builtin.zeroCells (.agg #[.int .i64 0, .slice none 0 0] : Value).cells (G - m) := ⟨_, rfl⟩
  rw [← hROW] at hrz
  have hsz : ROW.size = G * 2 := by rw [hROW]; simp [Builtin.zeroCells, Value.cells]; omega
  have HRS := hid hsz
  have HCM := hid hcapm
  have hgi : (0 : Int) ≤ G := by omega
  clear hROW hG hsz hold hinf hz0 hz1 hz2
  unfold maxLen at hcapm
  have hmi : (0 : Int) < m := by omega
  have HRZ := hid hrz
  clear hrz
  go_enter Tryz.func147, Tryz.ntmps147
  go_wp2_with (at_builtin; refine Lib.wpList_append_run _ rfl (.tmp 20) (.tmp 21) 174 3 rfl _ _ rfl rfl _ _ (HRZ.out _) ?_)
  go_wp2
  go_ret
  refine ⟨_, rfl, ⟨by simp, .inr ⟨w.heap.size, G, ROW, rfl, Nat.le_refl _, ?_, Nat.zero_le _, HCM.out, HRS.out, by simp⟩⟩, (Bw.drewN (Bw.alloc (Bw.refl w) _) 1)⟩
  exact (Has.new w 179 ROW).drew
set_option maxRecDepth 100000 in
set_option maxHeartbeats 4000000 in
theorem grow_zs (m : Nat) (h0 : 0 < m) (hm : m ≤ 1000000) (w : World) :
    Calls Tryz.prog 98 #[.slice none 0 0, .int .i64 m] w fun e w' => ∃ v, e = .returned v ∧ w'.ownsRow w.heap.size 3 1 v 0 [] ∧ Bw w w' := by
  obtain ⟨i0, hinf, hz0, hz1, hz2⟩ := info_parts infozs
  obtain ⟨G, hG⟩ : ∃ G, G = grownCap w m 0 3 := ⟨_, rfl⟩
  have hge : m ≤ G := by rw [hG]; exact grownCap_ge _ _ _ _
  have hold : (Builtin.firstCells i0.size 0 (.slice none 0 0)).run Tryz.prog w.drew = .ok (([] : List Value).toArray) w.drew := by rfl
  have hcapm : G ≤ maxLen := by rw [hG]; exact grownCap_le_maxLen w _ _ _ (by unfold maxLen; omega)
  have hrz : ∀ ty, (Builtin.append_ #[44, 3] ty #[.slice none 0 0, .int .i64 (m : Int)]).run Tryz.prog w = .ok (.slice (some ⟨w.heap.size, 0, none⟩) m G) (w.drew.alloc (.cells (([] : List Value).toArray ++ Builtin.zeroCells (.int .i64 0 : Value).cells m ++ Builtin.zeroCells (.int .i64 0 : Value).cells (G - m)) 3)) := fun ty => by
    have h := Lib.run_append_grow_zeros (P := Tryz.prog) w 44 3 ty 3 i0 _ .i64 .i64 Tryz.underlying44 Tryz.underlying3 hinf hz0 none 0 0 [] hold m h0 (by rw [hz1]; decide) (by omega) (by omega) (by rw [hz2]; omega) (by rw [hz2]; exact growslice_fits (by omega) (by omega))
    rw [Nat.zero_add, ← hG] at h
    exact h
  obtain ⟨ROW, hROW⟩ : ∃ ROW : Array Value, ROW = ([] : List Value).toArray ++ Builtin.zeroCells (.int .i64 0 : Value).cells m ++ Builtin.zeroCells (.int .i64 0 : Value).cells (G - m) := ⟨_, rfl⟩
  rw [← hROW] at hrz
  have hsz : ROW.size = G * 1 := by rw [hROW]; simp [Builtin.zeroCells, Value.cells]; omega
  have HRS := hid hsz
  have HCM := hid hcapm
  have hgi : (0 : Int) ≤ G := by omega
  clear hROW hG hsz hold hinf hz0 hz1 hz2
  unfold maxLen at hcapm
  have hmi : (0 : Int) < m := by omega
  have HRZ := hid hrz
  clear hrz
  go_enter Tryz.func98, Tryz.ntmps98
  go_wp2_with (at_builtin; refine Lib.wpList_append_run _ rfl (.tmp 20) (.tmp 21) 44 3 rfl _ _ rfl rfl _ _ (HRZ.out _) ?_)
  go_wp2
  go_ret
  refine ⟨_, rfl, ⟨by simp, .inr ⟨w.heap.size, G, ROW, rfl, Nat.le_refl _, ?_, Nat.zero_le _, HCM.out, HRS.out, by simp⟩⟩, (Bw.drewN (Bw.alloc (Bw.refl w) _) 1)⟩
  exact (Has.new w 3 ROW).drew
set_option maxRecDepth 100000 in
set_option maxHeartbeats 4000000 in
theorem clone_nd (B g cap n : Nat) (xs : List Value) (h0 : 0 < n) (hn : n ≤ 1000000) (hone : ∀ u ∈ xs, u.oneCell' = true) (w : World) (h : w.ownsRow B 179 2 (.slice (some ⟨g, 0, none⟩) n cap) n xs) :
    Calls Tryz.prog 138 #[.slice (some ⟨g, 0, none⟩) n cap] w fun e w' => ∃ v, e = .returned v ∧ w'.ownsRow w.heap.size 179 2 v n xs ∧ Bw w w' := by
  obtain ⟨i0, hinf, hz0, hz1, hz2⟩ := info_parts infond
  have HO := hid h
  have hl := h.1
  have heq := run_eql_slice_nil (P := Tryz.prog) w 174 179 (some ⟨g, 0, none⟩) n cap Tryz.underlying174
  clear h
  go_enter Tryz.func138, Tryz.ntmps138
  have HE : Hid ((w.alloc (.cells #[] 179)).ownsRow w.heap.size 179 2 (.slice (some ⟨w.heap.size, 0, none⟩) 0 0) 0 []) := hid ⟨rfl, .inr ⟨w.heap.size, 0, #[], rfl, Nat.le_refl _, Has.new w 179 #[], Nat.le_refl _, Nat.zero_le _, rfl, rfl⟩⟩
  have HN := hid (fun (j : Nat) (u : Value) (hj : xs[j]? = some u) => (HO.out.alloc (.cells #[] 179)).cells (g := g) rfl j u hj)
  go_wp2_with (at_builtin; refine wpList_append_own_at _ rfl (.tmp 5) (.tmp 6) 174 rfl w.heap.size 179 i0 (.agg #[.int .i64 0, .slice none 0 0]) 2 32 Tryz.underlying174 hinf hz0 hz1 hz2 rfl (by decide) (.slice (some ⟨w.heap.size, 0, none⟩) 0 0) 0 [] rfl HE.out ⟨g, 0, none⟩ n cap xs rfl hl HN.out hone (by unfold maxLen; omega) (by omega) (by simp only [World.size_alloc]; omega) ?_; intro v' w5 hown5 hgrow5 _ _; have HO5 := hid hown5; have HG5 := hid hgrow5; clear hown5 hgrow5)
  go_ret
  exact ⟨v', rfl, by simpa using HO5.out, Below.trans (Bw.alloc (Bw.refl w) _) (own_grownJ HE.out HG5.out (by simp only [World.size_alloc]; omega))⟩
set_option maxRecDepth 100000 in
set_option maxHeartbeats 4000000 in
theorem concat_nd (ab B1 g1 c1 n1 B2 g2 c2 n2 : Nat) (xs1 xs2 : List Value) (h01 : 0 < n1) (h02 : 0 < n2) (hn : n1 + n2 ≤ 1000000) (hone1 : ∀ u ∈ xs1, u.oneCell' = true) (hone2 : ∀ u ∈ xs2, u.oneCell' = true) (w : World) (ha : Has w ab 174 #[.slice (some ⟨g1, 0, none⟩) n1 c1, .slice (some ⟨g2, 0, none⟩) n2 c2])
    (h1 : w.ownsRow B1 179 2 (.slice (some ⟨g1, 0, none⟩) n1 c1) n1 xs1) (h2 : w.ownsRow B2 179 2 (.slice (some ⟨g2, 0, none⟩) n2 c2) n2 xs2) :
    Calls Tryz.prog 139 #[.slice (some ⟨ab, 0, none⟩) 2 2] w fun e w' => ∃ v, e = .returned v ∧ w'.ownsRow w.heap.size 179 2 v (n1 + n2) (xs1 ++ xs2) ∧ Bw w w' := by
  obtain ⟨i0, hinf, hz0, hz1, hz2⟩ := info_parts infond
  have c0 := ha.cell 0
  have c1x := ha.cell 1
  have HO1 := hid h1
  have HO2 := hid h2
  have HA := hid ha
  have hl1 := h1.1
  have hl2 := h2.1
  have HG := hid (fun W => grow_nd (n1 + n2) (by omega) hn W)
  rw [Int.natCast_add] at HG
  clear h1 h2 ha
  go_enter Tryz.func139, Tryz.ntmps139
  go_wp2
  refine wp_loop_rounds 3 ?_
  rw [rounds_succ]
  go_wp2
  rw [rounds_succ]
  go_wp2
  rw [rounds_succ]
  go_wp2_with (go_at_call 147; refine (HG.out _).mono ?_; rintro e w2 ⟨v, rfl, hv, hb⟩)
  have HV := hid hv
  have HB := hid hb
  have d0 := (HB.out.has HA.out).cell 0
  have d1 := (HB.out.has HA.out).cell 1
  have HP1 := hid (HB.out.own HO1.out)
  have HP2 := hid (HB.out.own HO2.out)
  have hb2 := hb.size
  clear hv hb c0 c1x HG
  go_wp2
  refine wp_loop_rounds 3 ?_
  rw [rounds_succ]
  have HN1 := hid (fun (j : Nat) (u : Value) (hj : xs1[j]? = some u) => HP1.out.cells (g := g1) rfl j u hj)
  go_wp2_with (at_builtin; refine wpList_append_own_at _ rfl (.tmp 31) (.tmp 32) 174 rfl w.heap.size 179 i0 (.agg #[.int .i64 0, .slice none 0 0]) 2 32 Tryz.underlying174 hinf hz0 hz1 hz2 rfl (by decide) v 0 [] rfl HV.out ⟨g1, 0, none⟩ n1 c1 xs1 rfl hl1 HN1.out hone1 (by unfold maxLen; omega) (by omega) hb2 ?_; intro v3 w3 hown3 hgrow3 _ _; have HO3 := hid hown3; have HG3 := hid hgrow3; clear hown3 hgrow3)
  have HB3 := hid (show Bw w w3 from Below.trans HB.out (own_grownJ HV.out HG3.out hb2))
  have hb3 := HB3.out.size
  have e0 := (HB3.out.has HA.out).cell 0
  have e1 := (HB3.out.has HA.out).cell 1
  have HN2 := hid (fun (j : Nat) (u : Value) (hj : xs2[j]? = some u) => (HB3.out.own HO2.out).cells (g := g2) rfl j u hj)
  clear d0 d1
  go_wp2_with fail
  rw [rounds_succ]
  go_wp2_with (at_builtin; refine wpList_append_own_at _ rfl (.tmp 31) (.tmp 32) 174 rfl w.heap.size 179 i0 (.agg #[.int .i64 0, .slice none 0 0]) 2 32 Tryz.underlying174 hinf hz0 hz1 hz2 rfl (by decide) v3 (0 + n1) ([] ++ xs1) rfl HO3.out ⟨g2, 0, none⟩ n2 c2 xs2 rfl hl2 HN2.out hone2 (by unfold maxLen; omega) (by omega) hb3 ?_; intro v4 w4 hown4 hgrow4 _ _; have HO4 := hid hown4; have HG4 := hid hgrow4; clear hown4 hgrow4)
  have HB4 := hid (show Bw w w4 from Below.trans HB3.out (own_grownJ HO3.out HG4.out hb3))
  clear e0 e1
  go_wp2_with fail
  rw [rounds_succ]
  go_wp2
  go_ret
  exact ⟨v4, rfl, by simpa using HO4.out, HB4.out⟩
set_option maxRecDepth 100000 in
set_option maxHeartbeats 4000000 in
theorem concat_zs (ab B1 g1 c1 n1 B2 g2 c2 n2 : Nat) (xs1 xs2 : List Value) (h01 : 0 < n1) (h02 : 0 < n2) (hn : n1 + n2 ≤ 1000000) (hone1 : ∀ u ∈ xs1, u.oneCell' = true) (hone2 : ∀ u ∈ xs2, u.oneCell' = true) (w : World) (ha : Has w ab 44 #[.slice (some ⟨g1, 0, none⟩) n1 c1, .slice (some ⟨g2, 0, none⟩) n2 c2])
    (h1 : w.ownsRow B1 3 1 (.slice (some ⟨g1, 0, none⟩) n1 c1) n1 xs1) (h2 : w.ownsRow B2 3 1 (.slice (some ⟨g2, 0, none⟩) n2 c2) n2 xs2) :
    Calls Tryz.prog 62 #[.slice (some ⟨ab, 0, none⟩) 2 2] w fun e w' => ∃ v, e = .returned v ∧ w'.ownsRow w.heap.size 3 1 v (n1 + n2) (xs1 ++ xs2) ∧ Bw w w' := by
  obtain ⟨i0, hinf, hz0, hz1, hz2⟩ := info_parts infozs
  have c0 := ha.cell 0
  have c1x := ha.cell 1
  have HO1 := hid h1
  have HO2 := hid h2
  have HA := hid ha
  have hl1 := h1.1
  have hl2 := h2.1
  have HG := hid (fun W => grow_zs (n1 + n2) (by omega) hn W)
  rw [Int.natCast_add] at HG
  clear h1 h2 ha
  go_enter Tryz.func62, Tryz.ntmps62
  go_wp2
  refine wp_loop_rounds 3 ?_
  rw [rounds_succ]
  go_wp2
  rw [rounds_succ]
  go_wp2
  rw [rounds_succ]
  go_wp2_with (go_at_call 98; refine (HG.out _).mono ?_; rintro e w2 ⟨v, rfl, hv, hb⟩)
  have HV := hid hv
  have HB := hid hb
  have d0 := (HB.out.has HA.out).cell 0
  have d1 := (HB.out.has HA.out).cell 1
  have HP1 := hid (HB.out.own HO1.out)
  have HP2 := hid (HB.out.own HO2.out)
  have hb2 := hb.size
  clear hv hb c0 c1x HG
  go_wp2
  refine wp_loop_rounds 3 ?_
  rw [rounds_succ]
  have HN1 := hid (fun (j : Nat) (u : Value) (hj : xs1[j]? = some u) => HP1.out.cells (g := g1) rfl j u hj)
  go_wp2_with (at_builtin; refine wpList_append_own_at _ rfl (.tmp 31) (.tmp 32) 44 rfl w.heap.size 3 i0 (.int .i64 0) 1 8 Tryz.underlying44 hinf hz0 hz1 hz2 rfl (by decide) v 0 [] rfl HV.out ⟨g1, 0, none⟩ n1 c1 xs1 rfl hl1 HN1.out hone1 (by unfold maxLen; omega) (by omega) hb2 ?_; intro v3 w3 hown3 hgrow3 _ _; have HO3 := hid hown3; have HG3 := hid hgrow3; clear hown3 hgrow3)
  have HB3 := hid (show Bw w w3 from Below.trans HB.out (own_grownJ HV.out HG3.out hb2))
  have hb3 := HB3.out.size
  have e0 := (HB3.out.has HA.out).cell 0
  have e1 := (HB3.out.has HA.out).cell 1
  have HN2 := hid (fun (j : Nat) (u : Value) (hj : xs2[j]? = some u) => (HB3.out.own HO2.out).cells (g := g2) rfl j u hj)
  clear d0 d1
  go_wp2_with fail
  rw [rounds_succ]
  go_wp2_with (at_builtin; refine wpList_append_own_at _ rfl (.tmp 31) (.tmp 32) 44 rfl w.heap.size 3 i0 (.int .i64 0) 1 8 Tryz.underlying44 hinf hz0 hz1 hz2 rfl (by decide) v3 (0 + n1) ([] ++ xs1) rfl HO3.out ⟨g2, 0, none⟩ n2 c2 xs2 rfl hl2 HN2.out hone2 (by unfold maxLen; omega) (by omega) hb3 ?_; intro v4 w4 hown4 hgrow4 _ _; have HO4 := hid hown4; have HG4 := hid hgrow4; clear hown4 hgrow4)
  have HB4 := hid (show Bw w w4 from Below.trans HB3.out (own_grownJ HO3.out HG4.out hb3))
  clear e0 e1
  go_wp2_with fail
  rw [rounds_succ]
  go_wp2
  go_ret
  exact ⟨v4, rfl, by simpa using HO4.out, HB4.out⟩
end Go.Proofs.YtkmbgkcpohchhaaGreatDoor
namespace Go.Proofs.YtkmbgkcpohchhaaGreatDoor
open Go.RowKit Go.Conc
set_option linter.unusedVariables false
abbrev NdM := Nat × List Nat
def symCells (s : List Nat) : List Value := s.map fun i => .int .i64 (i : Nat)
def SymR (X : Nat → Prop) (W : World) (x : Nd) (s : List Nat) : Prop := ∃ g cap, x.2 = (some ⟨g, 0, none⟩, s.length, cap) ∧ 0 < s.length ∧ W.ownsRow 0 3 1 (.slice (some ⟨g, 0, none⟩) s.length cap) s.length (symCells s) ∧ ¬ X g
def NodesM (X : Nat → Prop) (W : World) (N : List Nd) (M : List NdM) : Prop := N.length = M.length ∧ ∀ i (h1 : i < N.length) (h2 : i < M.length), N[i].1 = ((M[i].1 : Nat) : Int) ∧ SymR X W N[i] M[i].2
theorem SymR.bw {X : Nat → Prop} {W W' : World} {x : Nd} {s : List Nat} (h : SymR X W x s) (hb : Bw W W') : SymR X W' x s := by
  obtain ⟨g, cap, h1, h2, h3, h4⟩ := h
  exact ⟨g, cap, h1, h2, hb.own h3, h4⟩
theorem NodesM.bw {X : Nat → Prop} {W W' : World} {N : List Nd} {M : List NdM} (h : NodesM X W N M) (hb : Bw W W') : NodesM X W' N M := ⟨h.1, fun i h1 h2 => ⟨(h.2 i h1 h2).1, (h.2 i h1 h2).2.bw hb⟩⟩
theorem NodesM.snoc {X : Nat → Prop} {W : World} {N : List Nd} {M : List NdM} (h : NodesM X W N M) {x : Nd} {m : NdM} (h1 : x.1 = ((m.1 : Nat) : Int)) (h2 : SymR X W x m.2) : NodesM X W (N ++ [x]) (M ++ [m]) := by
  refine ⟨by simp [h.1], fun i hi hj => ?_⟩
  by_cases e : i < N.length
  · have e2 : i < M.length := by rw [← h.1]; exact e
    rw [List.getElem_append_left e, List.getElem_append_left e2]
    exact h.2 i e e2
  · have e1 : i = N.length := by simp at hi; omega
    subst e1
    have e2 : N.length = M.length := h.1
    rw [List.getElem_append_right (Nat.le_refl _)]
    simp only [Nat.sub_self, List.getElem_cons_zero]
    have e3 : (M ++ [m])[N.length] = m := by
      rw [List.getElem_append_right (by omega)]
      simp [e2]
    rw [e3]
    exact ⟨h1, h2⟩
theorem NodesM.nil (X : Nat → Prop) (W : World) : NodesM X W [] [] := ⟨rfl, fun i h _ => absurd h (by simp)⟩
theorem SymR.grown {X : Nat → Prop} {W W' : World} {x : Nd} {s : List Nat} (h : SymR X W x s) {B n : Nat} {v : Value} {xs : List Value} (hv : W.ownsRow B 179 2 v n xs) (hg : W.grownBy W' v.ownBlock) : SymR X W' x s := by
  obtain ⟨g, cap, h1, h2, h3, h4⟩ := h
  refine ⟨g, cap, h1, h2, own_keep h3 fun b hb => hg.block b (own_lt h3 hb) (fun e => ?_), h4⟩
  obtain ⟨c1, e1⟩ := own_at h3 hb
  obtain ⟨c2, e2⟩ := own_at hv e.symm
  rw [e1] at e2
  injection e2 with e2
  injection e2 with _ e2
  exact absurd e2 (by decide)
theorem NodesM.grown {X : Nat → Prop} {W W' : World} {N : List Nd} {M : List NdM} (h : NodesM X W N M) {B n : Nat} {v : Value} {xs : List Value} (hv : W.ownsRow B 179 2 v n xs) (hg : W.grownBy W' v.ownBlock) : NodesM X W' N M := ⟨h.1, fun i h1 h2 => ⟨(h.2 i h1 h2).1, (h.2 i h1 h2).2.grown hv hg⟩⟩
theorem NodesM.fresh {X X' : Nat → Prop} {W : World} {N : List Nd} {M : List NdM} (h : NodesM X W N M) (hX : ∀ g, X' g → W.heap.size ≤ g) : NodesM X' W N M := ⟨h.1, fun i h1 h2 => ⟨(h.2 i h1 h2).1, by
  obtain ⟨g, cap, e1, e2, e3, e4⟩ := (h.2 i h1 h2).2
  exact ⟨g, cap, e1, e2, e3, fun hg => by have := hX g hg; have := own_lt e3 (b := g) rfl; omega⟩⟩⟩
theorem ndCells_snoc (N : List Nd) (x : Nd) : ndCells (N ++ [x]) = ndCells N ++ ndE x := by simp [ndCells]
theorem nd_one (N : List Nd) : ∀ u ∈ ndCells N, u.oneCell' = true := fun u hu => by
  unfold ndCells at hu
  rw [List.mem_flatMap] at hu
  obtain ⟨x, _, hx⟩ := hu
  simp [ndE, ndV] at hx
  rcases hx with rfl | rfl <;> rfl
theorem sym_one (s : List Nat) : ∀ u ∈ symCells s, u.oneCell' = true := fun u hu => by
  unfold symCells at hu
  rw [List.mem_map] at hu
  obtain ⟨i, _, rfl⟩ := hu
  rfl
def lvM (l : List Int) : Nat → List NdM
  | 0 => []
  | k + 1 => if 0 < l.getD k 0 then lvM l k ++ [((l.getD k 0).toNat, [k])] else lvM l k
theorem lvM_len (l : List Int) : ∀ k, (lvM l k).length ≤ k
  | 0 => Nat.le_refl _
  | k + 1 => by
    have := lvM_len l k
    unfold lvM
    split
    · simp; exact this
    · omega
def oftB (x : Int) : Bool := decide (0 ≤ x ∧ x ≤ 1099511627776)
set_option maxRecDepth 100000 in
set_option maxHeartbeats 4000000 in
theorem leaves_ok (a : Option Addr) (len cap : Nat) (l : List Int) (hll : Hid (l.length = len)) (h320 : len ≤ 320) (hok : ∀ x ∈ l, oftB x = true) (w : World) (hst : ZsAt w a l) :
    Calls Tryz.prog 118 #[.slice a len cap] w fun e w' => ∃ (v : Value) (N : List Nd), e = .returned (.tuple #[v, .bool true]) ∧ w'.ownsRow w.heap.size 179 2 v N.length (ndCells N) ∧ NodesM (fun _ => False) w' N (lvM l len) ∧ Bw w w' := by
  obtain ⟨i0, hinf, hz0, hz1, hz2⟩ := info_parts infond
  have HST := hid hst
  have HOK := hid hok
  clear hst hok
  go_enter Tryz.func118, Tryz.ntmps118
  go_wp2_with fail
  go_loopw [4, 9] (fun v i wr => ∃ (k : Nat) (N : List Nd), k ≤ len ∧ i = .int .i64 k ∧ wr.ownsRow w.heap.size 179 2 v N.length (ndCells N) ∧ NodesM (fun _ => False) wr N (lvM l k) ∧ Bw w wr) (fun _ i _ => len - (intOf i).toNat)
  case atStart => exact ⟨0, [], Nat.zero_le _, rfl, World.ownsRow_nil _ _ _ _, NodesM.nil _ _, Bw.refl _⟩
  case round =>
    obtain ⟨k, N, hk, rfl, hown, hM, hbw⟩ := hrel
    obtain ⟨vo, vc, rfl⟩ := own_slice hown
    have HOW := hid hown
    have HM := hid hM
    have HB := hid hbw
    have hNk : N.length ≤ k := by rw [hM.1]; exact lvM_len l k
    have hbz := hbw.size
    clear hown hM
    by_cases hlt : k < len
    · have hlti : (k : Int) < len := by omega
      have hkl : k < l.length := by rw [hll.out]; omega
      have hgd : l.getD k 0 = l[k] := by simp [List.getD, hkl]
      have hx := of_decide_eq_true (HOK.out l[k] (List.getElem_mem hkl))
      obtain ⟨b, off, rfl, hbl, q0⟩ := HST.out k hkl
      have HL := hid (show lvM l (k + 1) = if 0 < l.getD k 0 then lvM l k ++ [((l.getD k 0).toNat, [k])] else lvM l k from rfl)
      rw [hgd] at HL
      have x0 : wr.cell? ⟨b, off + k, none⟩ = some (.int .i64 l[k]) := (World.cell?_of_block (hbw.block b hbl)).trans q0
      clear q0 hgd hbw
      generalize l[k] = x at *
      clear hkl
      obtain ⟨hx1, hx2⟩ := hx
      by_cases hp : 0 < x
      · rw [if_pos hp] at HL
        obtain ⟨n, hn⟩ : ∃ n, N.length = n := ⟨_, rfl⟩
        have HN := hid hn
        rw [hn] at HOW hNk ⊢
        clear hn
        have HS1 := hid (Has.new wr 3 #[.int .i64 k])
        go_wp2_with (at_builtin; refine wpList_append_own_at _ rfl (.tmp 22) (.tmp 27) 174 rfl w.heap.size 179 i0 (.agg #[.int .i64 0, .slice none 0 0]) 2 32 Tryz.underlying174 hinf hz0 hz1 hz2 rfl (by decide) (.slice vo n vc) n (ndCells N) rfl ((HOW.out.alloc _).alloc _) ⟨wr.heap.size + 1, 0, none⟩ 1 1 [.int .i64 x, .slice (some ⟨wr.heap.size, 0, none⟩) 1 1] rfl rfl (two_at (by simp) _ _ _) (by intro u hu; simp at hu; rcases hu with rfl | rfl <;> rfl) (by unfold maxLen; omega) (by omega) (by simp; omega) ?_; intro v' w5 hown5 hgrow5 _ _; have HO5 := hid hown5; have HG5 := hid hgrow5; clear hown5 hgrow5)
        have HB5 := hid (show Bw w w5 from Below.trans ((HB.out.alloc _).alloc _) (own_grownJ HOW.out HG5.out (by simp; omega)))
        have HM5 := hid (NodesM.grown (HM.out.bw (((Bw.refl wr).alloc (.cells #[.int .i64 k] 3)).alloc (.cells #[.int .i64 x, .slice (some ⟨wr.heap.size, 0, none⟩) 1 1] 179))) ((HOW.out.alloc _).alloc _) HG5.out)
        have HS5 := hid (SymR.grown (X := fun _ => False) (x := (x, some ⟨wr.heap.size, 0, none⟩, 1, 1)) (s := [k]) (W := (wr.alloc (.cells #[.int .i64 k] 3)).alloc (.cells #[.int .i64 x, .slice (some ⟨wr.heap.size, 0, none⟩) 1 1] 179)) ⟨wr.heap.size, 1, rfl, by simp, ⟨rfl, .inr ⟨wr.heap.size, 1, #[.int .i64 k], rfl, Nat.zero_le _, HS1.out.alloc _, Nat.le_refl _, by unfold maxLen; omega, rfl, rfl⟩⟩, fun h => h⟩ ((HOW.out.alloc _).alloc _) HG5.out)
        go_roundw
        case rel =>
          refine ⟨k + 1, N ++ [(x, some ⟨wr.heap.size, 0, none⟩, 1, 1)], by omega, by go_num, ?_, ?_, HB5.out⟩
          · rw [List.length_append, HN.out, ndCells_snoc]
            exact HO5.out
          · rw [HL.out]
            exact HM5.out.snoc (by simp only; omega) HS5.out
        case measure => simp [intOf]; omega
      · rw [if_neg hp] at HL
        have hx0 : x ≤ 0 := by omega
        go_wp2
        go_roundw
        case rel => exact ⟨k + 1, N, by omega, by go_num, HOW.out, by rw [HL.out]; exact HM.out, HB.out⟩
        case measure => simp [intOf]; omega
    · obtain rfl : k = len := by omega
      go_wp2
      go_returns
      exact ⟨_, N, rfl, HOW.out, HM.out, HB.out⟩
end Go.Proofs.YtkmbgkcpohchhaaGreatDoor
namespace Go.Proofs.YtkmbgkcpohchhaaGreatDoor
open Go.RowKit Go.Conc
set_option linter.unusedVariables false
def prM : List NdM → List NdM
  | a :: b :: r => (a.1 + b.1, a.2 ++ b.2) :: prM r
  | _ => []
theorem prM_len : ∀ M : List NdM, (prM M).length = M.length / 2
  | [] => rfl
  | [_] => by simp [prM]
  | a :: b :: r => by
    show (prM r).length + 1 = (r.length + 1 + 1) / 2
    rw [prM_len r]; omega
theorem prM_snoc : ∀ (M : List NdM) (j : Nat) (h : 2 * j + 1 < M.length), prM (M.take (2 * (j + 1))) = prM (M.take (2 * j)) ++ [((M[2 * j]'(by omega)).1 + (M[2 * j + 1]).1, (M[2 * j]'(by omega)).2 ++ (M[2 * j + 1]).2)]
  | [], j, h => absurd h (by simp)
  | [_], j, h => absurd h (by simp)
  | a :: b :: r, 0, _ => rfl
  | a :: b :: r, j + 1, h => by
    have ih := prM_snoc r j (by simp at h; omega)
    have e1 : 2 * (j + 1 + 1) = 2 * (j + 1) + 1 + 1 := by omega
    have e2 : 2 * (j + 1) = 2 * j + 1 + 1 := by omega
    show prM ((a :: b :: r).take (2 * (j + 1 + 1))) = prM ((a :: b :: r).take (2 * (j + 1))) ++ _
    rw [e1, List.take_succ_cons, List.take_succ_cons]
    have e3 : (a :: b :: r).take (2 * (j + 1)) = a :: b :: r.take (2 * j) := by rw [e2, List.take_succ_cons, List.take_succ_cons]
    rw [e3]
    show _ :: prM (r.take (2 * (j + 1))) = (_ :: prM (r.take (2 * j))) ++ _
    rw [ih]
    rfl
theorem prM_all (M : List NdM) (j : Nat) (h : M.length ≤ 2 * j + 1) : prM (M.take (2 * j)) = prM M := by
  by_cases e : M.length ≤ 2 * j
  · rw [List.take_of_length_le e]
  · have e2 : M.length = 2 * j + 1 := by omega
    clear h e
    induction j generalizing M with
    | zero =>
      match M, e2 with
      | [x], _ => rfl
    | succ j ih =>
      match M, e2 with
      | a :: b :: r, e2 =>
        have e3 : 2 * (j + 1) = 2 * j + 1 + 1 := by omega
        rw [e3, List.take_succ_cons, List.take_succ_cons]
        show _ :: prM _ = _ :: prM r
        rw [ih r (by simp at e2; omega)]
set_option maxRecDepth 100000 in
set_option maxHeartbeats 8000000 in
theorem pairs_any (B rb cap n : Nat) (N : List Nd) (M : List NdM) (hn : Hid (N.length = n)) (h0 : n ≤ 100000) (hw : ∀ m ∈ M, m.1 ≤ 1152921504606846976) (hs : ∀ m ∈ M, m.2.length ≤ 400000) (X : Nat → Prop) (w : World) (hX : ∀ g, X g → g < w.heap.size) (hB : B ≤ w.heap.size) (h : w.ownsRow B 179 2 (.slice (some ⟨rb, 0, none⟩) n cap) n (ndCells N)) (hM : NodesM X w N M) :
    Calls Tryz.prog 140 #[.slice (some ⟨rb, 0, none⟩) n cap] w fun e w' => ∃ (v : Value) (N' : List Nd), e = .returned v ∧ w'.ownsRow w.heap.size 179 2 v N'.length (ndCells N') ∧ NodesM X w' N' (prM M) ∧ Bw w w' := by
  obtain ⟨i0, hinf, hz0, hz1, hz2⟩ := info_parts infond
  have hcap := ownp_cap h
  have hrbl := own_lt h (b := rb) rfl
  have HO := hid h
  have HM := hid hM
  have HW := hid hw
  have HS := hid hs
  have hML : M.length = n := by rw [← hM.1]; exact hn.out
  have HML := hid hML
  have HX := hid hX
  clear h hM hw hs hML hX
  go_enter Tryz.func140, Tryz.ntmps140
  go_wp2_with fail
  go_loopw [3, 4] (fun v i wr => ∃ (j : Nat) (N' : List Nd), 2 * j ≤ n ∧ i = .int .i64 (((2 * j : Nat) : Int) + 1) ∧ wr.ownsRow w.heap.size 179 2 v N'.length (ndCells N') ∧ NodesM X wr N' (prM (M.take (2 * j))) ∧ Bw w wr) (fun _ i _ => n + 2 - (intOf i).toNat)
  case atStart => exact ⟨0, [], by omega, rfl, World.ownsRow_nil _ _ _ _, NodesM.nil _ _, Bw.refl _⟩
  case round =>
    obtain ⟨j, N', hj, rfl, hown, hM', hbw⟩ := hrel
    obtain ⟨vo, vc, rfl⟩ := own_slice hown
    have HOW := hid hown
    have HM' := hid hM'
    have HBW := hid hbw
    have hbz := hbw.size
    have hNl : N'.length ≤ j := by refine Nat.le_of_eq ?_; rw [hM'.1, prM_len, List.length_take, HML.out]; omega
    clear hown hM' hbw
    by_cases hlt : 2 * j + 1 < n
    · have hlti : ((2 * j : Nat) : Int) + 1 < n := by omega
      have k0 : 2 * j < N.length := by rw [hn.out]; omega
      have k1 : 2 * j + 1 < N.length := by rw [hn.out]; exact hlt
      have m0 : 2 * j < M.length := by rw [HML.out]; omega
      have m1 : 2 * j + 1 < M.length := by rw [HML.out]; exact hlt
      have HPS := hid (prM_snoc M j m1)
      have a0 := HM.out.2 (2 * j) k0 m0
      have a1 := HM.out.2 (2 * j + 1) k1 m1
      have w0 := HW.out _ (List.getElem_mem m0)
      have w1 := HW.out _ (List.getElem_mem m1)
      have s0 := HS.out _ (List.getElem_mem m0)
      have s1 := HS.out _ (List.getElem_mem m1)
      have c0 : ∀ c, c < 2 → (ndCells N)[2 * (2 * j) + c]? = (ndE N[2 * j])[c]? := fun c hc => flat2_get ndE (fun _ => rfl) N (2 * j) c k0 hc
      have c1 : ∀ c, c < 2 → (ndCells N)[2 * (2 * j + 1) + c]? = (ndE N[2 * j + 1])[c]? := fun c hc => flat2_get ndE (fun _ => rfl) N (2 * j + 1) c k1 hc
      generalize N[2 * j] = x0 at *
      generalize N[2 * j + 1] = x1 at *
      generalize M[2 * j] = y0 at *
      generalize M[2 * j + 1] = y1 at *
      obtain ⟨xa, xv⟩ := x0
      obtain ⟨xb, xu⟩ := x1
      obtain ⟨ya, ys⟩ := y0
      obtain ⟨yb, yt⟩ := y1
      obtain ⟨hxa, g0, cp0, hv0, hp0, hr0, -⟩ := a0
      obtain ⟨hxb, g1, cp1, hv1, hp1, hr1, -⟩ := a1
      simp only at hxa hxb hv0 hv1 hp0 hp1 hr0 hr1 w0 w1 s0 s1 HPS
      subst hxa hxb hv0 hv1
      obtain ⟨p, hp⟩ : ∃ p, 2 * j = p := ⟨_, rfl⟩
      have r0 := ownp_cell (HBW.out.own HO.out) (c0 0 (by omega))
      have r1 := ownp_cell (HBW.out.own HO.out) (c0 1 (by omega))
      have r2 := ownp_cell (HBW.out.own HO.out) (c1 0 (by omega))
      have r3 := ownp_cell (HBW.out.own HO.out) (c1 1 (by omega))
      rw [hp] at r0 r1 r2 r3 hlt hlti ⊢
      rw [Nat.add_zero, Nat.mul_comm] at r0 r2
      rw [Nat.mul_comm] at r1 r3
      have HSF := hid (fun (W : World) (h : W.heap[rb]? = wr.heap[rb]?) => (⟨(World.cell?_of_block h).trans r0, (World.cell?_of_block h).trans r1, (World.cell?_of_block h).trans r2, (World.cell?_of_block h).trans r3⟩ : W.cell? ⟨rb, p * 2, none⟩ = some (.int .i64 (ya : Nat)) ∧ W.cell? ⟨rb, p * 2 + 1, none⟩ = some (.slice (some ⟨g0, 0, none⟩) ys.length cp0) ∧ W.cell? ⟨rb, (p + 1) * 2, none⟩ = some (.int .i64 (yb : Nat)) ∧ W.cell? ⟨rb, (p + 1) * 2 + 1, none⟩ = some (.slice (some ⟨g1, 0, none⟩) yt.length cp1)))
      have HSS := hid (fun (W : World) (h : Bw wr W) => (⟨h.cell r0, h.cell r1, h.cell r2, h.cell r3⟩ : W.cell? ⟨rb, p * 2, none⟩ = some (.int .i64 (ya : Nat)) ∧ W.cell? ⟨rb, p * 2 + 1, none⟩ = some (.slice (some ⟨g0, 0, none⟩) ys.length cp0) ∧ W.cell? ⟨rb, (p + 1) * 2, none⟩ = some (.int .i64 (yb : Nat)) ∧ W.cell? ⟨rb, (p + 1) * 2 + 1, none⟩ = some (.slice (some ⟨g1, 0, none⟩) yt.length cp1)))
      have HP := hid hp
      have hp5 : p ≤ 100000 := by omega
      have e1 : IntKind.i64.wrap ((p : Int) + 1 - 1) = (p : Int) := by rw [IntWalk.i64_in _ (by omega)]; omega
      have e2 : IntKind.i64.wrap ((ya : Int) + yb) = (ya : Int) + yb := by rw [IntWalk.i64_in _ (by omega)]
      have e7 : IntKind.i64.wrap (p : Int) = (p : Int) := IntWalk.i64_in _ (by omega)
      have e3 : (0 : Int) ≤ (p : Int) + 1 := by omega
      have e5 : ((p : Int) + 1).toNat = p + 1 := by omega
      have e6 : (p : Int) < n := by omega
      have HA2 := hid (Has.new wr 44 #[.slice (some ⟨g0, 0, none⟩) ys.length cp0, .slice (some ⟨g1, 0, none⟩) yt.length cp1])
      have HR0 := hid (HBW.out.own hr0)
      have HR1 := hid (HBW.out.own hr1)
      clear r0 r1 r2 r3 c0 c1 hp hr0 hr1 k0 k1 m0 m1
      go_wp2_with fail
      have HAd : Hid (Has (wr.alloc (.cells #[.slice (some ⟨g0, 0, none⟩) ys.length cp0, .slice (some ⟨g1, 0, none⟩) yt.length cp1] 44)).drew wr.heap.size 44 #[.slice (some ⟨g0, 0, none⟩) ys.length cp0, .slice (some ⟨g1, 0, none⟩) yt.length cp1]) := hid HA2.out.drew
      have HBd : Hid (Bw wr (wr.alloc (.cells #[.slice (some ⟨g0, 0, none⟩) ys.length cp0, .slice (some ⟨g1, 0, none⟩) yt.length cp1] 44)).drew) := hid (((Bw.refl wr).alloc _).drewN 1)
      have hyl : ys.length + yt.length ≤ 1000000 := by omega
      go_region_held3 (fun W => W.cell? ⟨rb, p * 2, none⟩ = some (.int .i64 (ya : Nat)) ∧ W.cell? ⟨rb, p * 2 + 1, none⟩ = some (.slice (some ⟨g0, 0, none⟩) ys.length cp0) ∧ W.cell? ⟨rb, (p + 1) * 2, none⟩ = some (.int .i64 (yb : Nat)) ∧ W.cell? ⟨rb, (p + 1) * 2 + 1, none⟩ = some (.slice (some ⟨g1, 0, none⟩) yt.length cp1))
        (first | exact HSS.out _ ((Bw.refl wr).drewN 1) | exact HSS.out _ HBd.out | exact HSS.out _ HB2.out | exact HSS.out _ (HB2.out.alloc _) | exact HSF.out _ HB3.out)
        (first
          | (go_at_call 62; refine (concat_zs wr.heap.size 0 g0 cp0 ys.length 0 g1 cp1 yt.length (symCells ys) (symCells yt) hp0 hp1 hyl (sym_one _) (sym_one _) _ HAd.out (HBd.out.own HR0.out) (HBd.out.own HR1.out)).mono ?_; rintro e w2 ⟨v2, rfl, hv2, hb2⟩; obtain ⟨g2, cp2, rfl⟩ := own_some hv2 (by omega); have HV2 := hid hv2; have HB2 := hid (HBd.out.trans hb2); clear hv2 hb2)
          | (refine step_append_lies _ (by rfl) (.tmp 11) (.tmp 38) 174 (by rfl) w.heap.size 179 i0 (.agg #[.int .i64 0, .slice none 0 0]) 2 32 Tryz.underlying174 hinf hz0 hz1 hz2 (by rfl) (by decide) (.slice vo N'.length vc) N'.length (ndCells N') (by rfl) ((HB2.out.own HOW.out).alloc _) ⟨w2.heap.size, 0, none⟩ 1 1 [.int .i64 ((ya : Int) + yb), .slice (some ⟨g2, 0, none⟩) (ys.length + yt.length) cp2] (by rfl) rfl (own_two _ _ _ _) (by intro u hu; simp at hu; rcases hu with rfl | rfl <;> rfl) (by omega) (by unfold maxLen; omega) (by omega) (by have := HB2.out.size; simp only [World.size_alloc]; omega) (w2.heap.size + 1) (by simp) ?_; intro g5 cp5 w5 hown5 hgrow5 hat5 hlt5; have HO5 := hid hown5; have HG5 := hid hgrow5; have HB3 := hid ((hgrow5.block rb (by have := HB2.out.size; simp only [World.size_alloc]; omega) (fun e => by have := own_ge HOW.out e.symm; omega)).trans (((HB2.out.alloc _).block rb (by omega)))); clear hown5 hgrow5 hat5 hlt5))
      have HOA := hid ((HB2.out.own HOW.out).alloc (.cells #[.int .i64 ((ya : Int) + yb), .slice (some ⟨g2, 0, none⟩) (ys.length + yt.length) cp2] 179))
      have HB5 := hid (show Bw w w5 from Below.trans (Bw.trans HBW.out (HB2.out.alloc _)) (own_grownJ HOA.out HG5.out (by have := HB2.out.size; simp only [World.size_alloc]; omega)))
      have HM5 := hid (NodesM.grown (HM'.out.bw (HB2.out.alloc _)) HOA.out HG5.out)
      have HV3 : Hid (SymR X w2 ((ya : Int) + yb, some ⟨g2, 0, none⟩, ys.length + yt.length, cp2) (ys ++ yt)) := hid ⟨g2, cp2, by simp, by simp; omega, by rw [List.length_append, symCells, List.map_append]; exact own_base HV2.out (Nat.zero_le _), fun hx => by have h1 := HX.out _ hx; have h2 := own_ge HV2.out (b := g2) rfl; have h3 := HBd.out.size; omega⟩
      have HS5 := hid (SymR.grown (HV3.out.bw ((Bw.refl w2).alloc _)) HOA.out HG5.out)
      have HXI := hid (show (((2 * (j + 1) : Nat) : Int)) + 1 = (p : Int) + 1 + 2 by have := HP.out; omega)
      go_wp2
      go_roundw
      case rel =>
        refine ⟨j + 1, N' ++ [((ya : Int) + yb, some ⟨g2, 0, none⟩, ys.length + yt.length, cp2)], by have := HP.out; omega, congrArg (Value.int .i64) HXI.out.symm, ?_, ?_, HB5.out⟩
        · rw [List.length_append, ndCells_snoc]
          exact HO5.out
        · rw [HPS.out]
          exact HM5.out.snoc (by simp only; omega) HS5.out
      case measure => simp [intOf]; omega
    · have hnj : n ≤ 2 * j + 1 := by omega
      have hnji : ¬ ((2 * j : Nat) : Int) + 1 < n := by omega
      have HF := hid (prM_all M j (by rw [HML.out]; exact hnj))
      rw [HF.out] at HM'
      go_wp2
      go_ret
      exact ⟨_, rfl, N', HOW.out, HM'.out, HBW.out⟩
end Go.Proofs.YtkmbgkcpohchhaaGreatDoor
namespace Go.Proofs.YtkmbgkcpohchhaaGreatDoor
open Go.RowKit Go.Conc
set_option linter.unusedVariables false
def mLt (x y : NdM) : Bool := decide (x.1 < y.1)
def sortM (M : List NdM) : List NdM := sortL mLt M
theorem insRev_congr {α : Type} {lt lt' : α → α → Bool} {x : α} : ∀ {r : List α}, (∀ y ∈ r, lt x y = lt' x y) → insRev lt x r = insRev lt' x r
  | [], _ => rfl
  | y :: r, h => by
    unfold insRev
    rw [h y (List.mem_cons_self ..), insRev_congr (fun z hz => h z (List.mem_cons_of_mem _ hz))]
theorem fold_congr {α : Type} {lt lt' : α → α → Bool} : ∀ {l r : List α}, (∀ x ∈ l, ∀ y, y ∈ l ∨ y ∈ r → lt x y = lt' x y) → l.foldl (fun r x => insRev lt x r) r = l.foldl (fun r x => insRev lt' x r) r
  | [], r, _ => rfl
  | x :: l, r, h => by
    rw [List.foldl_cons, List.foldl_cons, insRev_congr (lt' := lt') (fun y hy => h x (List.mem_cons_self ..) y (.inr hy))]
    refine fold_congr fun z hz y hy => h z (List.mem_cons_of_mem _ hz) y ?_
    rcases hy with hy | hy
    · exact .inl (List.mem_cons_of_mem _ hy)
    · rcases (insRev_mem lt' x r y).1 hy with e | e
      · exact .inl (by rw [e]; exact List.mem_cons_self ..)
      · exact .inr e
theorem sortL_congr {α : Type} {lt lt' : α → α → Bool} {l : List α} (h : ∀ x ∈ l, ∀ y ∈ l, lt x y = lt' x y) : sortL lt l = sortL lt' l := by
  unfold sortL
  rw [fold_congr (fun x hx y hy => h x hx y (hy.elim id (fun e => by simp at e)))]
def NodesZ (X : Nat → Prop) (W : World) (Z : List (Nd × NdM)) : Prop := ∀ z ∈ Z, z.1.1 = ((z.2.1 : Nat) : Int) ∧ SymR X W z.1 z.2.2
theorem NodesM.z {X : Nat → Prop} {W : World} {N : List Nd} {M : List NdM} (h : NodesM X W N M) : ∃ Z : List (Nd × NdM), Z.map Prod.fst = N ∧ Z.map Prod.snd = M ∧ NodesZ X W Z := by
  refine ⟨N.zip M, ?_, ?_, ?_⟩
  · rw [List.map_fst_zip]; exact Nat.le_of_eq h.1
  · rw [List.map_snd_zip]; exact Nat.le_of_eq h.1.symm
  · intro z hz
    obtain ⟨i, hi, rfl⟩ := List.getElem_of_mem hz
    rw [List.length_zip] at hi
    have := h.2 i (by omega) (by omega)
    simpa using this
theorem NodesZ.m {X : Nat → Prop} {W : World} {Z : List (Nd × NdM)} (h : NodesZ X W Z) : NodesM X W (Z.map Prod.fst) (Z.map Prod.snd) := by
  refine ⟨by simp, fun i h1 h2 => ?_⟩
  have hz : i < Z.length := by simpa using h1
  have := h Z[i] (List.getElem_mem hz)
  simpa using this
theorem NodesM.sort {X : Nat → Prop} {W : World} {N : List Nd} {M : List NdM} (h : NodesM X W N M) : NodesM X W (sortL ndLt N) (sortM M) := by
  obtain ⟨Z, rfl, rfl, hz⟩ := h.z
  have e1 : sortL ndLt (Z.map Prod.fst) = (sortL (fun z z' => ndLt z.1 z'.1) Z).map Prod.fst := (sortL_map Prod.fst (fun z z' => ndLt z.1 z'.1) ndLt (fun _ _ => rfl) Z).symm
  have e2 : sortM (Z.map Prod.snd) = (sortL (fun z z' => mLt z.2 z'.2) Z).map Prod.snd := (sortL_map Prod.snd (fun z z' => mLt z.2 z'.2) mLt (fun _ _ => rfl) Z).symm
  have e3 : sortL (fun z z' : Nd × NdM => ndLt z.1 z'.1) Z = sortL (fun z z' => mLt z.2 z'.2) Z := sortL_congr fun x hx y hy => by
    have a := (hz x hx).1
    have b := (hz y hy).1
    unfold ndLt mLt
    rw [decide_eq_decide, a, b]; omega
  rw [e1, e2, e3]
  exact NodesZ.m fun z hzz => hz z ((sortL_mem _ _ _).1 hzz)
theorem NodesM.append {X : Nat → Prop} {W : World} {N N' : List Nd} {M M' : List NdM} (h : NodesM X W N M) (h' : NodesM X W N' M') : NodesM X W (N ++ N') (M ++ M') := by
  obtain ⟨Z, rfl, rfl, hz⟩ := h.z
  obtain ⟨Z', rfl, rfl, hz'⟩ := h'.z
  rw [← List.map_append, ← List.map_append]
  refine NodesZ.m fun z hzz => ?_
  rcases List.mem_append.1 hzz with e | e
  · exact hz z e
  · exact hz' z e
theorem NodesM.take {X : Nat → Prop} {W : World} {N : List Nd} {M : List NdM} (h : NodesM X W N M) (n : Nat) : NodesM X W (N.take n) (M.take n) := by
  obtain ⟨Z, rfl, rfl, hz⟩ := h.z
  rw [← List.map_take, ← List.map_take]
  exact NodesZ.m fun z hzz => hz z (List.mem_of_mem_take hzz)
theorem ndCells_append (N N' : List Nd) : ndCells (N ++ N') = ndCells N ++ ndCells N' := by simp [ndCells]
def lvlM (M : List NdM) : Nat → List NdM
  | 0 => sortM M
  | k + 1 => sortM (M ++ prM (lvlM M k))
def Bnd (k : Nat) (m : NdM) : Prop := m.1 ≤ 1099511627776 * 2 ^ k ∧ m.2.length ≤ 2 ^ k
theorem prM_mem : ∀ (M : List NdM) (k : Nat), (∀ m ∈ M, Bnd k m) → ∀ m ∈ prM M, Bnd (k + 1) m
  | [], _, _, m, hm => by simp [prM] at hm
  | [x], _, _, m, hm => by simp [prM] at hm
  | a :: b :: r, k, h, m, hm => by
    have ha := h a (by simp)
    have hb := h b (by simp)
    have hm2 : m = (a.1 + b.1, a.2 ++ b.2) ∨ m ∈ prM r := by simpa [prM] using hm
    rcases hm2 with rfl | hm
    · unfold Bnd at *
      simp only [List.length_append]
      rw [Nat.pow_succ]; omega
    · exact prM_mem r k (fun x hx => h x (by simp [hx])) m hm
theorem lvlM_bnd (M : List NdM) (h : ∀ m ∈ M, Bnd 0 m) : ∀ k, ∀ m ∈ lvlM M k, Bnd k m
  | 0, m, hm => h m ((sortL_mem mLt M m).1 hm)
  | k + 1, m, hm => by
    have := (sortL_mem mLt _ m).1 hm
    rcases List.mem_append.1 this with e | e
    · have := h m e
      unfold Bnd at *
      have hp := Nat.two_pow_pos (k + 1)
      have hp2 : 2 ^ (k + 1) ≥ 1 := hp
      have h3 : 1099511627776 * 2 ^ 0 ≤ 1099511627776 * 2 ^ (k + 1) := Nat.mul_le_mul_left _ (by simpa using hp2)
      have h4 : (2 : Nat) ^ 0 ≤ 2 ^ (k + 1) := by simpa using hp2
      exact ⟨Nat.le_trans this.1 h3, Nat.le_trans this.2 h4⟩
    · exact prM_mem _ k (lvlM_bnd M h k) m e
end Go.Proofs.YtkmbgkcpohchhaaGreatDoor
namespace Go.Proofs.YtkmbgkcpohchhaaGreatDoor
open Go.RowKit Go.Conc
set_option linter.unusedVariables false
theorem own_take {w : World} {B t size g n n' cap : Nat} {xs : List Value} (h : w.ownsRow B t size (.slice (some ⟨g, 0, none⟩) n cap) n xs) (hn : n' ≤ n) : w.ownsRow B t size (.slice (some ⟨g, 0, none⟩) n' cap) n' (xs.take (n' * size)) := by
  have hl := h.1
  obtain ⟨cur, hg, hge, h1, h2, h3, h4⟩ := ownp_row h
  have hm : n' * size ≤ n * size := Nat.mul_le_mul_right _ hn
  refine ⟨by rw [List.length_take, hl]; omega, .inr ⟨g, cap, cur, rfl, hge, hg, by omega, h2, h3, ?_⟩⟩
  rw [← h4, List.take_take, Nat.min_eq_left hm]
theorem ndCells_take (N : List Nd) : ∀ n, (ndCells N).take (n * 2) = ndCells (N.take n) := by
  induction N with
  | nil => intro n; simp [ndCells]
  | cons x N ih =>
    intro n
    cases n with
    | zero => simp [ndCells]
    | succ n =>
      have e : ndCells (x :: N) = .int .i64 x.1 :: ndV x :: ndCells N := rfl
      rw [e, show (n + 1) * 2 = n * 2 + 1 + 1 by omega, List.take_succ_cons, List.take_succ_cons, ih n]
      rfl
end Go.Proofs.YtkmbgkcpohchhaaGreatDoor
namespace Go.Proofs.YtkmbgkcpohchhaaGreatDoor
open Go.RowKit Go.Conc
set_option linter.unusedVariables false
def lenArr (F : List Nat) (len : Nat) : Array Value := ((List.range len).map fun i => Value.int .i64 (F.count i : Nat)).toArray
theorem lenArr_get (F : List Nat) (len i : Nat) (h : i < len) : (lenArr F len)[i]? = some (.int .i64 (F.count i : Nat)) := by simp [lenArr, h]
theorem lenArr_zero (l : List Int) (n : Nat) : cArr l n 0 = lenArr [] n := by
  unfold cArr lenArr
  congr 2
theorem lenArr_put (F : List Nat) (len s : Nat) (h : s < len) : (lenArr F len).setIfInBounds s (.int .i64 (F.count s + 1 : Nat)) = lenArr (F ++ [s]) len := by
  apply Array.ext_getElem?
  intro i
  have hsz : (lenArr F len).size = len := by simp [lenArr]
  rw [Array.getElem?_setIfInBounds, hsz]
  by_cases hi : i < len
  · rw [lenArr_get (F ++ [s]) len i hi, List.count_append]
    by_cases e : s = i
    · subst e; rw [if_pos rfl, if_pos h]; simp
    · rw [if_neg e, lenArr_get F len i hi]; simp [e]
  · rw [if_neg (by omega), Array.getElem?_eq_none (by rw [hsz]; omega), Array.getElem?_eq_none (by simp [lenArr]; omega)]
def SymLt (n : Nat) (M : List NdM) : Prop := ∀ m ∈ M, ∀ s ∈ m.2, s < n
theorem lvM_sym (l : List Int) : ∀ k, SymLt k (lvM l k)
  | 0 => fun m hm => by simp [lvM] at hm
  | k + 1 => fun m hm s hs => by
    unfold lvM at hm
    split at hm
    · rcases List.mem_append.1 hm with e | e
      · have := lvM_sym l k m e s hs; omega
      · simp only [List.mem_singleton] at e
        subst e
        simp at hs; omega
    · have := lvM_sym l k m hm s hs; omega
theorem prM_sym (n : Nat) : ∀ M : List NdM, SymLt n M → SymLt n (prM M)
  | [], _ => fun m hm => by simp [prM] at hm
  | [x], _ => fun m hm => by simp [prM] at hm
  | a :: b :: r, h => fun m hm s hs => by
    have hm2 : m = (a.1 + b.1, a.2 ++ b.2) ∨ m ∈ prM r := by simpa [prM] using hm
    rcases hm2 with rfl | hm
    · rcases List.mem_append.1 hs with e | e
      · exact h a (by simp) s e
      · exact h b (by simp) s e
    · exact prM_sym n r (fun x hx => h x (by simp [hx])) m hm s hs
theorem lvlM_sym {n : Nat} {M : List NdM} (h : SymLt n M) : ∀ k, SymLt n (lvlM M k)
  | 0 => fun m hm => h m ((sortL_mem mLt M m).1 hm)
  | k + 1 => fun m hm => by
    have := (sortL_mem mLt _ m).1 hm
    rcases List.mem_append.1 this with e | e
    · exact h m e
    · exact prM_sym n _ (lvlM_sym h k) m e
def chosen (M : List NdM) (most : Nat) : List NdM := (lvlM M (most - 1)).take (2 * M.length - 2)
def flatS (C : List NdM) : List Nat := C.flatMap Prod.snd
theorem flatS_snoc (C : List NdM) (k : Nat) (h : k < C.length) : flatS (C.take (k + 1)) = flatS (C.take k) ++ C[k].2 := by
  rw [List.take_succ_eq_append_getElem h]
  unfold flatS
  rw [List.flatMap_append]
  simp only [List.flatMap_cons, List.flatMap_nil, List.append_nil]
theorem flatS_len (B : Nat) : ∀ C : List NdM, (∀ m ∈ C, m.2.length ≤ B) → (flatS C).length ≤ C.length * B
  | [], _ => by simp [flatS]
  | m :: C, h => by
    have h1 := flatS_len B C (fun x hx => h x (by simp [hx]))
    have h2 := h m (by simp)
    have e : flatS (m :: C) = m.2 ++ flatS C := rfl
    rw [e, List.length_append, List.length_cons, Nat.add_mul, Nat.one_mul]; omega
theorem big_cnt {c f m j y k n : Nat} (h1 : c ≤ f + m) (h2 : m ≤ j) (h3 : f ≤ k * 16384) (h4 : j < y) (h5 : y ≤ 16384) (h6 : k ≤ n) (h7 : n ≤ 16) : c < 4611686018427387904 := by omega
theorem lvM_bnd (l : List Int) (h : ∀ x ∈ l, oftB x = true) : ∀ k, k ≤ l.length → ∀ m ∈ lvM l k, Bnd 0 m
  | 0, _, m, hm => by simp [lvM] at hm
  | k + 1, hk, m, hm => by
    unfold lvM at hm
    split at hm
    · rcases List.mem_append.1 hm with e | e
      · exact lvM_bnd l h k (by omega) m e
      · simp only [List.mem_singleton] at e
        subst e
        have hx := of_decide_eq_true (h l[k] (List.getElem_mem hk))
        have hg : l.getD k 0 = l[k] := by simp [List.getD, show k < l.length from hk]
        unfold Bnd
        rw [hg]
        refine ⟨by simp only; omega, by simp⟩
    · exact lvM_bnd l h k (by omega) m hm
end Go.Proofs.YtkmbgkcpohchhaaGreatDoor
namespace Go.Proofs.YtkmbgkcpohchhaaGreatDoor
open Go.RowKit Go.Conc
set_option linter.unusedVariables false
inductive IL {α : Type} : List α → List α → List α → Prop
  | nil : IL [] [] []
  | left {A P S : List α} (a : α) : IL A P S → IL (a :: A) P (a :: S)
  | right {A P S : List α} (p : α) : IL A P S → IL A (p :: P) (p :: S)
section
variable {α : Type}
theorem IL.left_only : ∀ A : List α, IL A [] A
  | [] => .nil
  | a :: A => .left a (left_only A)
theorem IL.put (lt : α → α → Bool) {A P S : List α} (h : IL A P S) (x : α) (hx : ∀ y ∈ P, lt x y = false) : IL A (x :: P) (insRev lt x S) := by
  induction h with
  | nil => exact .right x .nil
  | left a h ih =>
    unfold insRev
    split
    · exact .left a (ih hx)
    · exact .right x (.left a h)
  | right p h ih =>
    unfold insRev
    rw [if_neg (by simp [hx p (List.mem_cons_self ..)])]
    exact .right x (.right p h)
theorem IL.fold (lt : α → α → Bool) : ∀ (P : List α) {Q A r : List α}, IL A Q r → P.Pairwise (fun x y => lt y x = false) → (∀ q ∈ Q, ∀ p ∈ P, lt p q = false) → IL A (P.reverse ++ Q) (P.foldl (fun r x => insRev lt x r) r)
  | [], Q, A, r, h, _, _ => by simpa using h
  | p :: P, Q, A, r, h, hp, hq => by
    rw [List.foldl_cons, List.reverse_cons, List.append_assoc]
    rw [List.pairwise_cons] at hp
    refine IL.fold lt P (h.put lt p fun y hy => hq y hy p (List.mem_cons_self ..)) hp.2 fun q hq' x hx => ?_
    rcases List.mem_cons.1 hq' with rfl | h'
    · exact hp.1 x hx
    · exact hq q h' x (List.mem_cons_of_mem _ hx)
theorem IL.snocL {A P S : List α} (h : IL A P S) (a : α) : IL (A ++ [a]) P (S ++ [a]) := by
  induction h with
  | nil => exact .left a .nil
  | left b h ih => exact .left b ih
  | right p h ih => exact .right p ih
theorem IL.snocR {A P S : List α} (h : IL A P S) (a : α) : IL A (P ++ [a]) (S ++ [a]) := by
  induction h with
  | nil => exact .right a .nil
  | left b h ih => exact .left b ih
  | right p h ih => exact .right p ih
theorem IL.rev {A P S : List α} (h : IL A P S) : IL A.reverse P.reverse S.reverse := by
  induction h with
  | nil => exact .nil
  | left b h ih => rw [List.reverse_cons, List.reverse_cons]; exact ih.snocL b
  | right p h ih => rw [List.reverse_cons, List.reverse_cons]; exact ih.snocR p
theorem sortL_il (lt : α → α → Bool) (M P : List α) (hP : P.Pairwise (fun x y => lt y x = false)) : IL (sortL lt M) P (sortL lt (M ++ P)) := by
  unfold sortL
  rw [List.foldl_append]
  have := (IL.fold lt P (IL.left_only (M.foldl (fun r x => insRev lt x r) [])) hP (fun q hq => by simp at hq)).rev
  simpa using this
theorem IL.split {A P S : List α} (h : IL A P S) : ∀ m, m ≤ S.length → ∃ a b, a + b = m ∧ a ≤ A.length ∧ b ≤ P.length ∧ IL (A.take a) (P.take b) (S.take m) ∧ IL (A.drop a) (P.drop b) (S.drop m) := by
  induction h with
  | nil => intro m hm; exact ⟨0, 0, by simp at hm; omega, Nat.le_refl _, Nat.le_refl _, by simpa using IL.nil, by simpa using IL.nil⟩
  | @left A P S x h ih =>
    intro m hm
    cases m with
    | zero => exact ⟨0, 0, rfl, Nat.zero_le _, Nat.zero_le _, .nil, .left x h⟩
    | succ m =>
      obtain ⟨a, b, h1, h2, h3, h4, h5⟩ := ih m (by simpa using hm)
      exact ⟨a + 1, b, by omega, by simpa using h2, h3, .left x h4, h5⟩
  | @right A P S x h ih =>
    intro m hm
    cases m with
    | zero => exact ⟨0, 0, rfl, Nat.zero_le _, Nat.zero_le _, .nil, .right x h⟩
    | succ m =>
      obtain ⟨a, b, h1, h2, h3, h4, h5⟩ := ih m (by simpa using hm)
      exact ⟨a, b + 1, by omega, h2, by simpa using h3, .right x h4, h5⟩
theorem IL.mem {A P S : List α} (h : IL A P S) (x : α) : x ∈ S ↔ x ∈ A ∨ x ∈ P := by
  induction h with
  | nil => simp
  | left a h ih => simp only [List.mem_cons, ih, or_assoc]
  | right p h ih => simp only [List.mem_cons, ih]; constructor <;> (intro h; rcases h with h | h | h <;> simp [h])
end
theorem flatS_cons (c : NdM) (C : List NdM) : flatS (c :: C) = c.2 ++ flatS C := by simp [flatS]
theorem IL.cnt {A P S : List NdM} (h : IL A P S) (i : Nat) : (flatS S).count i = (flatS A).count i + (flatS P).count i := by
  induction h with
  | nil => rfl
  | left a h ih => rw [flatS_cons, flatS_cons, List.count_append, List.count_append, ih]; omega
  | right p h ih => rw [flatS_cons, flatS_cons, List.count_append, List.count_append, ih]; omega
def AscM (L : List NdM) : Prop := L.Pairwise fun x y => x.1 ≤ y.1
theorem insRev_desc (x : NdM) : ∀ r : List NdM, r.Pairwise (fun x y => y.1 ≤ x.1) → (insRev mLt x r).Pairwise (fun x y => y.1 ≤ x.1)
  | [], _ => by simp [insRev]
  | y :: r, h => by
    have h' := h
    rw [List.pairwise_cons] at h
    unfold insRev
    split
    · rename_i hxy
      have hxy : x.1 < y.1 := of_decide_eq_true hxy
      rw [List.pairwise_cons]
      refine ⟨fun z hz => ?_, insRev_desc x r h.2⟩
      rcases (insRev_mem mLt x r z).1 hz with e | e
      · rw [e]; omega
      · exact h.1 z e
    · rename_i hxy
      have hxy : ¬ x.1 < y.1 := fun hh => hxy (decide_eq_true hh)
      rw [List.pairwise_cons]
      refine ⟨fun z hz => ?_, h'⟩
      rcases List.mem_cons.1 hz with e | e
      · rw [e]; omega
      · have := h.1 z e; omega
theorem fold_desc : ∀ (l r : List NdM), r.Pairwise (fun x y => y.1 ≤ x.1) → (l.foldl (fun r x => insRev mLt x r) r).Pairwise (fun x y => y.1 ≤ x.1)
  | [], r, h => h
  | x :: l, r, h => fold_desc l _ (insRev_desc x r h)
theorem sortM_asc (M : List NdM) : AscM (sortM M) := by
  unfold AscM sortM sortL
  rw [List.pairwise_reverse]
  exact fold_desc M [] List.Pairwise.nil
theorem lvlM_asc (M : List NdM) : ∀ k, AscM (lvlM M k)
  | 0 => sortM_asc _
  | k + 1 => sortM_asc _
theorem prM_two : ∀ (L : List NdM) (m : NdM), m ∈ prM L → ∃ c ∈ L, ∃ d ∈ L, m.1 = c.1 + d.1
  | [], m, h => by simp [prM] at h
  | [x], m, h => by simp [prM] at h
  | a :: b :: r, m, h => by
    have h2 : m = (a.1 + b.1, a.2 ++ b.2) ∨ m ∈ prM r := by simpa [prM] using h
    rcases h2 with rfl | h2
    · exact ⟨a, by simp, b, by simp, rfl⟩
    · obtain ⟨c, hc, d, hd, e⟩ := prM_two r m h2
      exact ⟨c, by simp [hc], d, by simp [hd], e⟩
theorem prM_asc : ∀ L : List NdM, AscM L → AscM (prM L)
  | [], _ => by simp [prM, AscM]
  | [x], _ => by simp [prM, AscM]
  | a :: b :: r, h => by
    unfold AscM at h
    rw [List.pairwise_cons, List.pairwise_cons] at h
    show List.Pairwise _ ((a.1 + b.1, a.2 ++ b.2) :: prM r)
    rw [List.pairwise_cons]
    refine ⟨fun m hm => ?_, prM_asc r h.2.2⟩
    obtain ⟨c, hc, d, hd, e⟩ := prM_two r m hm
    have h1 := h.1 c (by simp [hc])
    have h2 := h.2.1 d hd
    rw [e]
    show a.1 + b.1 ≤ _
    omega
theorem prM_flat : ∀ (b : Nat) (L : List NdM), b ≤ L.length / 2 → flatS ((prM L).take b) = flatS (L.take (2 * b))
  | 0, L, _ => by simp
  | b + 1, [], h => by simp at h
  | b + 1, [x], h => by simp at h
  | b + 1, x :: y :: r, h => by
    have ih := prM_flat b r (by simp at h; omega)
    show flatS ((x.1 + y.1, x.2 ++ y.2) :: (prM r).take b) = flatS (x :: y :: r.take (2 * b))
    rw [flatS_cons, flatS_cons, flatS_cons, ih]
    simp
theorem prM_over : ∀ (b : Nat) (L : List NdM), b ≤ L.length / 2 → (∀ x ∈ L, 0 < x.1) → ∀ x ∈ L.take (2 * b), ∃ p ∈ (prM L).take b, x.1 < p.1
  | 0, L, _, _, x, hx => by simp at hx
  | b + 1, [], h, _, x, hx => by simp at h
  | b + 1, [y], h, _, x, hx => by simp at h
  | b + 1, u :: v :: r, h, hpos, x, hx => by
    have hx : x ∈ u :: v :: r.take (2 * b) := hx
    have hu := hpos u (by simp)
    have hv := hpos v (by simp)
    show ∃ p ∈ (u.1 + v.1, u.2 ++ v.2) :: (prM r).take b, x.1 < p.1
    rcases List.mem_cons.1 hx with rfl | hx
    · exact ⟨_, List.mem_cons_self .., by show x.1 < x.1 + v.1; omega⟩
    rcases List.mem_cons.1 hx with rfl | hx
    · exact ⟨_, List.mem_cons_self .., by show x.1 < u.1 + x.1; omega⟩
    · obtain ⟨p, hp, e⟩ := prM_over b r (by simp at h; omega) (fun z hz => hpos z (by simp [hz])) x hx
      exact ⟨p, List.mem_cons_of_mem _ hp, e⟩
theorem lvlM_pos {M : List NdM} (h : ∀ x ∈ M, 0 < x.1) : ∀ k, ∀ x ∈ lvlM M k, 0 < x.1
  | 0, x, hx => h x ((sortL_mem mLt M x).1 hx)
  | k + 1, x, hx => by
    have hx := (sortL_mem mLt (M ++ prM (lvlM M k)) x).1 hx
    rcases List.mem_append.1 hx with e | e
    · exact h x e
    · obtain ⟨c, hc, d, hd, e⟩ := prM_two _ x e
      have := lvlM_pos h k c hc
      omega
def sumW (f : Nat → Nat) : Nat → Nat
  | 0 => f 0
  | k + 1 => sumW f k + f (k + 1) * 2 ^ (k + 1)
def sumC (M : List NdM) (f : Nat → Nat) (i : Nat) : Nat → Nat
  | 0 => (flatS ((sortM M).take (f 0))).count i
  | k + 1 => sumC M f i k + (flatS ((sortM M).take (f (k + 1)))).count i
theorem sumW_congr {f g : Nat → Nat} : ∀ k, (∀ j, j ≤ k → f j = g j) → sumW f k = sumW g k
  | 0, h => h 0 (Nat.le_refl _)
  | k + 1, h => by
    unfold sumW
    rw [sumW_congr k fun j hj => h j (by omega), h (k + 1) (Nat.le_refl _)]
theorem sumC_congr (M : List NdM) {f g : Nat → Nat} (i : Nat) : ∀ k, (∀ j, j ≤ k → f j = g j) → sumC M f i k = sumC M g i k
  | 0, h => by unfold sumC; rw [h 0 (Nat.le_refl _)]
  | k + 1, h => by
    unfold sumC
    rw [sumC_congr M i k fun j hj => h j (by omega), h (k + 1) (Nat.le_refl _)]
structure Lev (M : List NdM) (f : Nat → Nat) (k m : Nat) : Prop where
  mono : ∀ j, j < k → f j ≤ f (j + 1)
  few : ∀ j, j ≤ k → f j ≤ M.length
  worth : sumW f k = m * 2 ^ k
  count : ∀ i, (flatS ((lvlM M k).take m)).count i = sumC M f i k
  top : ∀ x ∈ (sortM M).take (f k), x ∈ (lvlM M k).take m
theorem levels {M : List NdM} (hpos : ∀ x ∈ M, 0 < x.1) : ∀ k m, m ≤ (lvlM M k).length → ∃ f, Lev M f k m
  | 0, m, hm => by
    have hm : m ≤ (sortL mLt M).length := hm
    rw [sortL_len] at hm
    exact ⟨fun _ => m, fun j hj => by omega, fun j hj => hm, by simp [sumW], fun i => rfl, fun x hx => hx⟩
  | k + 1, m, hm => by
    have hP := prM_asc _ (lvlM_asc M k)
    have hil := sortL_il mLt M (prM (lvlM M k)) (hP.imp fun {x y} h => decide_eq_false (by omega))
    obtain ⟨a, b, hab, ha, hb, h1, h2⟩ := hil.split m hm
    have haM : a ≤ M.length := by rw [sortL_len] at ha; exact ha
    have hb2 : b ≤ (lvlM M k).length / 2 := by rw [prM_len] at hb; exact hb
    obtain ⟨f, hf⟩ := levels hpos k (2 * b) (by omega)
    have hfa : f k ≤ a := by
      rcases Nat.lt_or_ge a (f k) with hlt | hge
      · exfalso
        have haA : a < (sortL mLt M).length := by have := hf.few k (Nat.le_refl _); rw [sortL_len]; omega
        have hx1 : (sortL mLt M)[a] ∈ (sortM M).take (f k) := List.mem_take_iff_getElem.2 ⟨a, by show a < min (f k) (sortL mLt M).length; omega, rfl⟩
        obtain ⟨p, hp, hxp⟩ := prM_over b _ hb2 (lvlM_pos hpos k) _ (hf.top _ hx1)
        have hx2 : (sortL mLt M)[a] ∈ (sortL mLt M).drop a := by rw [List.drop_eq_getElem_cons haA]; exact List.mem_cons_self ..
        have hasc : AscM (lvlM M (k + 1)) := lvlM_asc M (k + 1)
        unfold AscM at hasc
        rw [← List.take_append_drop m (lvlM M (k + 1)), List.pairwise_append] at hasc
        have := hasc.2.2 p ((h1.mem p).2 (.inr hp)) _ ((h2.mem _).2 (.inl hx2))
        omega
      · exact hge
    refine ⟨fun j => if j ≤ k then f j else a, ?_, ?_, ?_, ?_, ?_⟩
    · intro j hj
      by_cases e : j = k
      · subst e
        simp only [Nat.le_refl, if_true, show ¬ j + 1 ≤ j by omega, if_false]
        exact hfa
      · have := hf.mono j (by omega)
        simp only [show j ≤ k by omega, show j + 1 ≤ k by omega, if_true]
        exact this
    · intro j hj
      by_cases e : j ≤ k
      · simp only [e, if_true]; exact hf.few j e
      · simp only [e, if_false]; exact haM
    · unfold sumW
      rw [sumW_congr (g := f) k (fun j hj => if_pos hj), hf.worth, if_neg (by omega), ← hab, Nat.add_mul, Nat.pow_succ]
      have : 2 * b * 2 ^ k = b * (2 ^ k * 2) := by rw [Nat.mul_comm 2 b, Nat.mul_assoc, Nat.mul_comm 2]
      omega
    · intro i
      unfold sumC
      rw [sumC_congr M (g := f) i k (fun j hj => if_pos hj), ← hf.count i, if_neg (by omega)]
      show (flatS ((sortL mLt (M ++ prM (lvlM M k))).take m)).count i = _
      rw [h1.cnt i, prM_flat b _ hb2]
      exact Nat.add_comm _ _
    · intro x hx
      rw [if_neg (by omega)] at hx
      exact (h1.mem x).2 (.inl hx)
end Go.Proofs.YtkmbgkcpohchhaaGreatDoor
