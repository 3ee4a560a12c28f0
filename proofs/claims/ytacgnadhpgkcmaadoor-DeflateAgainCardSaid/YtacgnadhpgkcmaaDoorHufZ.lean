/- Clone, Grow and Concat at nodes and at ints (contracts of the functions). -/
import Derived.Test.YtacgnadhpgkcmaaDoorHufY
import Derived.Lib.AppendZerosOnto
import Derived.Lib.LazyBuf
namespace Go.Proofs.YtacgnadhpgkcmaaDoor
open Go.RowKit Go.Lib
set_option linter.unusedVariables false
theorem infond : (Tryd.prog.info? 115).map (fun i => (i.zero, i.size, i.bytes)) = some (some (.agg #[.int .i64 0, .slice none 0 0]), 2, 32) := by kernel_rfl
theorem infozs : (Tryd.prog.info? 3).map (fun i => (i.zero, i.size, i.bytes)) = some (some (.int .i64 0), 1, 8) := by kernel_rfl
set_option maxRecDepth 100000 in
set_option maxHeartbeats 4000000 in
theorem grow_nd (m : Nat) (h0 : 0 < m) (hm : m ≤ 1000000) (w : World) :
    Calls Tryd.prog 67 #[.slice none 0 0, .int .i64 m] w fun e w' => ∃ v, e = .returned v ∧ w'.ownsRow w.heap.size 115 2 v 0 [] ∧ Bw w w' := by
  obtain ⟨i0, hinf, hz0, hz1, hz2⟩ := info_parts infond
  obtain ⟨G, hG⟩ : ∃ G, G = grownCap w m 0 115 := ⟨_, rfl⟩
  have hge : m ≤ G := by rw [hG]; exact grownCap_ge _ _ _ _
  have hold : (Builtin.firstCells i0.size 0 (.slice none 0 0)).run Tryd.prog w.drew = .ok (([] : List Value).toArray) w.drew := by rfl
  have hcapm : G ≤ maxLen := by rw [hG]; exact grownCap_le_maxLen w _ _ _ (by unfold maxLen; omega)
  have hrz : ∀ ty, (Builtin.append_ #[110, 3] ty #[.slice none 0 0, .int .i64 (m : Int)]).run Tryd.prog w = .ok (.slice (some ⟨w.heap.size, 0, none⟩) m G) (w.drew.alloc (.cells (([] : List Value).toArray ++ Builtin.zeroCells (.agg #[.int .i64 0, .slice none 0 0] : Value).cells m ++ Builtin.zeroCells (.agg #[.int .i64 0, .slice none 0 0] : Value).cells (G - m)) 115)) := fun ty => by
    have h := Lib.run_append_grow_zeros (P := Tryd.prog) w 110 3 ty 115 i0 _ .i64 .i64 Tryd.underlying110 Tryd.underlying3 hinf hz0 none 0 0 [] hold m h0 (by rw [hz1]; decide) (by omega) (by omega) (by rw [hz2]; omega) (by rw [hz2]; exact growslice_fits (by omega) (by omega))
    rw [Nat.zero_add, ← hG] at h
    exact h
  obtain ⟨ROW, hROW⟩ : ∃ ROW : Array Value, ROW = ([] : List Value).toArray ++ Builtin.zeroCells (.agg #[.int .i64 0, .slice none 0 0] : Value).cells m ++ Builtin.zeroCells (.agg #[.int .i64 0, .slice none 0 0] : Value).cells (G - m) := ⟨_, rfl⟩
  rw [← hROW] at hrz
  have hsz : ROW.size = G * 2 := by rw [hROW]; simp [Builtin.zeroCells, Value.cells]; omega
  have HRS := hid hsz
  have HCM := hid hcapm
  have hgi : (0 : Int) ≤ G := by omega
  clear hROW hG hsz hold hinf hz0 hz1 hz2
  unfold maxLen at hcapm
  have hmi : (0 : Int) < m := by omega
  have HRZ := hid hrz
  clear hrz
  go_enter Tryd.func67, Tryd.ntmps67
  go_wp2_with (at_builtin; refine Lib.wpList_append_run _ rfl (.tmp 20) (.tmp 21) 110 3 rfl _ _ rfl rfl _ _ (HRZ.out _) ?_)
  go_wp2
  go_ret
  refine ⟨_, rfl, ⟨by simp, .inr ⟨w.heap.size, G, ROW, rfl, Nat.le_refl _, ?_, Nat.zero_le _, HCM.out, HRS.out, by simp⟩⟩, (Bw.drewN (Bw.alloc (Bw.refl w) _) 1)⟩
  exact (Has.new w 115 ROW).drew
set_option maxRecDepth 100000 in
set_option maxHeartbeats 4000000 in
theorem grow_zs (m : Nat) (h0 : 0 < m) (hm : m ≤ 1000000) (w : World) :
    Calls Tryd.prog 47 #[.slice none 0 0, .int .i64 m] w fun e w' => ∃ v, e = .returned v ∧ w'.ownsRow w.heap.size 3 1 v 0 [] ∧ Bw w w' := by
  obtain ⟨i0, hinf, hz0, hz1, hz2⟩ := info_parts infozs
  obtain ⟨G, hG⟩ : ∃ G, G = grownCap w m 0 3 := ⟨_, rfl⟩
  have hge : m ≤ G := by rw [hG]; exact grownCap_ge _ _ _ _
  have hold : (Builtin.firstCells i0.size 0 (.slice none 0 0)).run Tryd.prog w.drew = .ok (([] : List Value).toArray) w.drew := by rfl
  have hcapm : G ≤ maxLen := by rw [hG]; exact grownCap_le_maxLen w _ _ _ (by unfold maxLen; omega)
  have hrz : ∀ ty, (Builtin.append_ #[32, 3] ty #[.slice none 0 0, .int .i64 (m : Int)]).run Tryd.prog w = .ok (.slice (some ⟨w.heap.size, 0, none⟩) m G) (w.drew.alloc (.cells (([] : List Value).toArray ++ Builtin.zeroCells (.int .i64 0 : Value).cells m ++ Builtin.zeroCells (.int .i64 0 : Value).cells (G - m)) 3)) := fun ty => by
    have h := Lib.run_append_grow_zeros (P := Tryd.prog) w 32 3 ty 3 i0 _ .i64 .i64 Tryd.underlying32 Tryd.underlying3 hinf hz0 none 0 0 [] hold m h0 (by rw [hz1]; decide) (by omega) (by omega) (by rw [hz2]; omega) (by rw [hz2]; exact growslice_fits (by omega) (by omega))
    rw [Nat.zero_add, ← hG] at h
    exact h
  obtain ⟨ROW, hROW⟩ : ∃ ROW : Array Value, ROW = ([] : List Value).toArray ++ Builtin.zeroCells (.int .i64 0 : Value).cells m ++ Builtin.zeroCells (.int .i64 0 : Value).cells (G - m) := ⟨_, rfl⟩
  rw [← hROW] at hrz
  have hsz : ROW.size = G * 1 := by rw [hROW]; simp [Builtin.zeroCells, Value.cells]; omega
  have HRS := hid hsz
  have HCM := hid hcapm
  have hgi : (0 : Int) ≤ G := by omega
  clear hROW hG hsz hold hinf hz0 hz1 hz2
  unfold maxLen at hcapm
  have hmi : (0 : Int) < m := by omega
  have HRZ := hid hrz
  clear hrz
  go_enter Tryd.func47, Tryd.ntmps47
  go_wp2_with (at_builtin; refine Lib.wpList_append_run _ rfl (.tmp 20) (.tmp 21) 32 3 rfl _ _ rfl rfl _ _ (HRZ.out _) ?_)
  go_wp2
  go_ret
  refine ⟨_, rfl, ⟨by simp, .inr ⟨w.heap.size, G, ROW, rfl, Nat.le_refl _, ?_, Nat.zero_le _, HCM.out, HRS.out, by simp⟩⟩, (Bw.drewN (Bw.alloc (Bw.refl w) _) 1)⟩
  exact (Has.new w 3 ROW).drew
set_option maxRecDepth 100000 in
set_option maxHeartbeats 4000000 in
theorem clone_nd (B g cap n : Nat) (xs : List Value) (h0 : 0 < n) (hn : n ≤ 1000000) (hone : ∀ u ∈ xs, u.oneCell' = true) (w : World) (h : w.ownsRow B 115 2 (.slice (some ⟨g, 0, none⟩) n cap) n xs) :
    Calls Tryd.prog 62 #[.slice (some ⟨g, 0, none⟩) n cap] w fun e w' => ∃ v, e = .returned v ∧ w'.ownsRow w.heap.size 115 2 v n xs ∧ Bw w w' := by
  obtain ⟨i0, hinf, hz0, hz1, hz2⟩ := info_parts infond
  have HO := hid h
  have hl := h.1
  have heq := run_eql_slice_nil (P := Tryd.prog) w 110 115 (some ⟨g, 0, none⟩) n cap Tryd.underlying110
  clear h
  go_enter Tryd.func62, Tryd.ntmps62
  have HE : Hid ((w.alloc (.cells #[] 115)).ownsRow w.heap.size 115 2 (.slice (some ⟨w.heap.size, 0, none⟩) 0 0) 0 []) := hid ⟨rfl, .inr ⟨w.heap.size, 0, #[], rfl, Nat.le_refl _, Has.new w 115 #[], Nat.le_refl _, Nat.zero_le _, rfl, rfl⟩⟩
  have HN := hid (fun (j : Nat) (u : Value) (hj : xs[j]? = some u) => (HO.out.alloc (.cells #[] 115)).cells (g := g) rfl j u hj)
  go_wp2_with (at_builtin; refine wpList_append_own_at _ rfl (.tmp 5) (.tmp 6) 110 rfl w.heap.size 115 i0 (.agg #[.int .i64 0, .slice none 0 0]) 2 32 Tryd.underlying110 hinf hz0 hz1 hz2 rfl (by decide) (.slice (some ⟨w.heap.size, 0, none⟩) 0 0) 0 [] rfl HE.out ⟨g, 0, none⟩ n cap xs rfl hl HN.out hone (by unfold maxLen; omega) (by omega) (by simp only [World.size_alloc]; omega) ?_; intro v' w5 hown5 hgrow5 _ _; have HO5 := hid hown5; have HG5 := hid hgrow5; clear hown5 hgrow5)
  go_ret
  exact ⟨v', rfl, by simpa using HO5.out, Below.trans (Bw.alloc (Bw.refl w) _) (own_grownJ HE.out HG5.out (by simp only [World.size_alloc]; omega))⟩
set_option maxRecDepth 100000 in
set_option maxHeartbeats 4000000 in
theorem concat_nd (ab B1 g1 c1 n1 B2 g2 c2 n2 : Nat) (xs1 xs2 : List Value) (h01 : 0 < n1) (h02 : 0 < n2) (hn : n1 + n2 ≤ 1000000) (hone1 : ∀ u ∈ xs1, u.oneCell' = true) (hone2 : ∀ u ∈ xs2, u.oneCell' = true) (w : World) (ha : Has w ab 110 #[.slice (some ⟨g1, 0, none⟩) n1 c1, .slice (some ⟨g2, 0, none⟩) n2 c2])
    (h1 : w.ownsRow B1 115 2 (.slice (some ⟨g1, 0, none⟩) n1 c1) n1 xs1) (h2 : w.ownsRow B2 115 2 (.slice (some ⟨g2, 0, none⟩) n2 c2) n2 xs2) :
    Calls Tryd.prog 63 #[.slice (some ⟨ab, 0, none⟩) 2 2] w fun e w' => ∃ v, e = .returned v ∧ w'.ownsRow w.heap.size 115 2 v (n1 + n2) (xs1 ++ xs2) ∧ Bw w w' := by
  obtain ⟨i0, hinf, hz0, hz1, hz2⟩ := info_parts infond
  have c0 := ha.cell 0
  have c1x := ha.cell 1
  have HO1 := hid h1
  have HO2 := hid h2
  have HA := hid ha
  have hl1 := h1.1
  have hl2 := h2.1
  have HG := hid (fun W => grow_nd (n1 + n2) (by omega) hn W)
  rw [Int.natCast_add] at HG
  clear h1 h2 ha
  go_enter Tryd.func63, Tryd.ntmps63
  go_wp2
  refine wp_loop_rounds 3 ?_
  rw [rounds_succ]
  go_wp2
  rw [rounds_succ]
  go_wp2
  rw [rounds_succ]
  go_wp2_with (go_at_call 67; refine (HG.out _).mono ?_; rintro e w2 ⟨v, rfl, hv, hb⟩)
  have HV := hid hv
  have HB := hid hb
  have d0 := (HB.out.has HA.out).cell 0
  have d1 := (HB.out.has HA.out).cell 1
  have HP1 := hid (HB.out.own HO1.out)
  have HP2 := hid (HB.out.own HO2.out)
  have hb2 := hb.size
  clear hv hb c0 c1x HG
  go_wp2
  refine wp_loop_rounds 3 ?_
  rw [rounds_succ]
  have HN1 := hid (fun (j : Nat) (u : Value) (hj : xs1[j]? = some u) => HP1.out.cells (g := g1) rfl j u hj)
  go_wp2_with (at_builtin; refine wpList_append_own_at _ rfl (.tmp 31) (.tmp 32) 110 rfl w.heap.size 115 i0 (.agg #[.int .i64 0, .slice none 0 0]) 2 32 Tryd.underlying110 hinf hz0 hz1 hz2 rfl (by decide) v 0 [] rfl HV.out ⟨g1, 0, none⟩ n1 c1 xs1 rfl hl1 HN1.out hone1 (by unfold maxLen; omega) (by omega) hb2 ?_; intro v3 w3 hown3 hgrow3 _ _; have HO3 := hid hown3; have HG3 := hid hgrow3; clear hown3 hgrow3)
  have HB3 := hid (show Bw w w3 from Below.trans HB.out (own_grownJ HV.out HG3.out hb2))
  have hb3 := HB3.out.size
  have e0 := (HB3.out.has HA.out).cell 0
  have e1 := (HB3.out.has HA.out).cell 1
  have HN2 := hid (fun (j : Nat) (u : Value) (hj : xs2[j]? = some u) => (HB3.out.own HO2.out).cells (g := g2) rfl j u hj)
  clear d0 d1
  go_wp2_with fail
  rw [rounds_succ]
  go_wp2_with (at_builtin; refine wpList_append_own_at _ rfl (.tmp 31) (.tmp 32) 110 rfl w.heap.size 115 i0 (.agg #[.int .i64 0, .slice none 0 0]) 2 32 Tryd.underlying110 hinf hz0 hz1 hz2 rfl (by decide) v3 (0 + n1) ([] ++ xs1) rfl HO3.out ⟨g2, 0, none⟩ n2 c2 xs2 rfl hl2 HN2.out hone2 (by unfold maxLen; omega) (by omega) hb3 ?_; intro v4 w4 hown4 hgrow4 _ _; have HO4 := hid hown4; have HG4 := hid hgrow4; clear hown4 hgrow4)
  have HB4 := hid (show Bw w w4 from Below.trans HB3.out (own_grownJ HO3.out HG4.out hb3))
  clear e0 e1
  go_wp2_with fail
  rw [rounds_succ]
  go_wp2
  go_ret
  exact ⟨v4, rfl, by simpa using HO4.out, HB4.out⟩
set_option maxRecDepth 100000 in
set_option maxHeartbeats 4000000 in
theorem concat_zs (ab B1 g1 c1 n1 B2 g2 c2 n2 : Nat) (xs1 xs2 : List Value) (h01 : 0 < n1) (h02 : 0 < n2) (hn : n1 + n2 ≤ 1000000) (hone1 : ∀ u ∈ xs1, u.oneCell' = true) (hone2 : ∀ u ∈ xs2, u.oneCell' = true) (w : World) (ha : Has w ab 32 #[.slice (some ⟨g1, 0, none⟩) n1 c1, .slice (some ⟨g2, 0, none⟩) n2 c2])
    (h1 : w.ownsRow B1 3 1 (.slice (some ⟨g1, 0, none⟩) n1 c1) n1 xs1) (h2 : w.ownsRow B2 3 1 (.slice (some ⟨g2, 0, none⟩) n2 c2) n2 xs2) :
    Calls Tryd.prog 25 #[.slice (some ⟨ab, 0, none⟩) 2 2] w fun e w' => ∃ v, e = .returned v ∧ w'.ownsRow w.heap.size 3 1 v (n1 + n2) (xs1 ++ xs2) ∧ Bw w w' := by
  obtain ⟨i0, hinf, hz0, hz1, hz2⟩ := info_parts infozs
  have c0 := ha.cell 0
  have c1x := ha.cell 1
  have HO1 := hid h1
  have HO2 := hid h2
  have HA := hid ha
  have hl1 := h1.1
  have hl2 := h2.1
  have HG := hid (fun W => grow_zs (n1 + n2) (by omega) hn W)
  rw [Int.natCast_add] at HG
  clear h1 h2 ha
  go_enter Tryd.func25, Tryd.ntmps25
  go_wp2
  refine wp_loop_rounds 3 ?_
  rw [rounds_succ]
  go_wp2
  rw [rounds_succ]
  go_wp2
  rw [rounds_succ]
  go_wp2_with (go_at_call 47; refine (HG.out _).mono ?_; rintro e w2 ⟨v, rfl, hv, hb⟩)
  have HV := hid hv
  have HB := hid hb
  have d0 := (HB.out.has HA.out).cell 0
  have d1 := (HB.out.has HA.out).cell 1
  have HP1 := hid (HB.out.own HO1.out)
  have HP2 := hid (HB.out.own HO2.out)
  have hb2 := hb.size
  clear hv hb c0 c1x HG
  go_wp2
  refine wp_loop_rounds 3 ?_
  rw [rounds_succ]
  have HN1 := hid (fun (j : Nat) (u : Value) (hj : xs1[j]? = some u) => HP1.out.cells (g := g1) rfl j u hj)
  go_wp2_with (at_builtin; refine wpList_append_own_at _ rfl (.tmp 31) (.tmp 32) 32 rfl w.heap.size 3 i0 (.int .i64 0) 1 8 Tryd.underlying32 hinf hz0 hz1 hz2 rfl (by decide) v 0 [] rfl HV.out ⟨g1, 0, none⟩ n1 c1 xs1 rfl hl1 HN1.out hone1 (by unfold maxLen; omega) (by omega) hb2 ?_; intro v3 w3 hown3 hgrow3 _ _; have HO3 := hid hown3; have HG3 := hid hgrow3; clear hown3 hgrow3)
  have HB3 := hid (show Bw w w3 from Below.trans HB.out (own_grownJ HV.out HG3.out hb2))
  have hb3 := HB3.out.size
  have e0 := (HB3.out.has HA.out).cell 0
  have e1 := (HB3.out.has HA.out).cell 1
  have HN2 := hid (fun (j : Nat) (u : Value) (hj : xs2[j]? = some u) => (HB3.out.own HO2.out).cells (g := g2) rfl j u hj)
  clear d0 d1
  go_wp2_with fail
  rw [rounds_succ]
  go_wp2_with (at_builtin; refine wpList_append_own_at _ rfl (.tmp 31) (.tmp 32) 32 rfl w.heap.size 3 i0 (.int .i64 0) 1 8 Tryd.underlying32 hinf hz0 hz1 hz2 rfl (by decide) v3 (0 + n1) ([] ++ xs1) rfl HO3.out ⟨g2, 0, none⟩ n2 c2 xs2 rfl hl2 HN2.out hone2 (by unfold maxLen; omega) (by omega) hb3 ?_; intro v4 w4 hown4 hgrow4 _ _; have HO4 := hid hown4; have HG4 := hid hgrow4; clear hown4 hgrow4)
  have HB4 := hid (show Bw w w4 from Below.trans HB3.out (own_grownJ HO3.out HG4.out hb3))
  clear e0 e1
  go_wp2_with fail
  rw [rounds_succ]
  go_wp2
  go_ret
  exact ⟨v4, rfl, by simpa using HO4.out, HB4.out⟩
end Go.Proofs.YtacgnadhpgkcmaaDoor
