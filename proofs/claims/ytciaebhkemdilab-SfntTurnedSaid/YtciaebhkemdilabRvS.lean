/- slices.Insert at a row of parts (for spans without values). -/
import Derived.Test.YtciaebhkemdilabRvR
import Derived.Deep.RegionLaw
namespace Go.Proofs.Ytciaebhkemdilab
open Go.RowKit Go.Conc Go.Lib
set_option linter.unusedVariables false
set_option linter.unusedSimpArgs false
theorem partInfo : (Try.prog.info? 111).map (fun i => (i.zero, i.size, i.bytes)) = some (some (.agg #[.int .i64 0, .int .i64 0]), 2, 24) := by kernel_rfl
theorem has_cells {w : World} {b : Nat} {t : TypeId} {cs : List Value} (h : Has w b t cs.toArray) : ∀ j u, cs[j]? = some u → w.cell? (Addr.add ⟨b, 0, none⟩ j) = some u := fun j u hu => by
  rw [addr_add, h.cell j]
  simpa using hu
/-- What Insert leaves: the row with one element more, in its old block or in a new one. -/
def InsPost (w : World) (row : Option Nat) (n : Nat) (L : List PartR) (e : Ending) (w' : World) : Prop :=
  ∃ v', e = .returned v' ∧ w'.ownsRow 0 111 2 v' n (partCells L) ∧ w.grownBy w' row ∧ (v'.ownBlock = row ∨ ∃ b, v'.ownBlock = some b ∧ w.heap.size ≤ b)
set_option maxRecDepth 100000 in
set_option maxHeartbeats 4000000 in
theorem ins_end (v : Value) (n : Nat) (L : List PartR) (hn : Hid (L.length = n)) (h9 : n ≤ 1000000) (p : PartR) (vb : Nat) (w : World) (hown : w.ownsRow 0 111 2 v n (partCells L)) (hv : Has w vb 111 (partCell p).toArray) :
    Calls Try.prog 69 #[v, .int .i64 n, .slice (some ⟨vb, 0, none⟩) 1 1] w (InsPost w v.ownBlock (n + 1) (L ++ [p])) := by
  obtain ⟨i0, hinf, hz0, hz1, hz2⟩ := info_parts partInfo
  obtain ⟨vo, vc, rfl⟩ := own_slice hown
  have HOW := hid hown
  have HV := hid hv
  have h1 : (0 : Int) < 1 := by omega
  clear hown hv
  by_cases hcn : n = vc
  · obtain rfl : n = vc := hcn
    go_enter Try.func69, Try.ntmps69
    go_wp2_with (at_builtin; refine wpList_append_own_at _ rfl (.tmp 23) (.tmp 24) 117 rfl 0 111 i0 (.agg #[.int .i64 0, .int .i64 0]) 2 24 Try.underlying117 hinf hz0 hz1 hz2 rfl (by decide) (.slice vo n n) n (partCells L) rfl HOW.out ⟨vb, 0, none⟩ 1 1 (partCell p) rfl rfl (has_cells HV.out) (partCell_lit p) (by unfold maxLen; omega) (by omega) (Nat.zero_le _) ?_; intro v' w5 hown5 hgrow5 _ hat5; have HO5 := hid hown5; have HG5 := hid hgrow5; have HA5 := hid hat5; clear hown5 hgrow5 hat5)
    go_returns
    refine ⟨_, rfl, ?_, HG5.out, HA5.out.imp id fun h => ⟨_, h, Nat.le_refl _⟩⟩
    rw [partCells_app, partCells_one]
    exact HO5.out
  · have hcn2 : ¬ vc = n := fun e => hcn e.symm
    go_enter Try.func69, Try.ntmps69
    go_wp2_with (at_builtin; refine wpList_append_own_at _ rfl (.tmp 23) (.tmp 24) 117 rfl 0 111 i0 (.agg #[.int .i64 0, .int .i64 0]) 2 24 Try.underlying117 hinf hz0 hz1 hz2 rfl (by decide) (.slice vo n vc) n (partCells L) rfl HOW.out ⟨vb, 0, none⟩ 1 1 (partCell p) rfl rfl (has_cells HV.out) (partCell_lit p) (by unfold maxLen; omega) (by omega) (Nat.zero_le _) ?_; intro v' w5 hown5 hgrow5 _ hat5; have HO5 := hid hown5; have HG5 := hid hgrow5; have HA5 := hid hat5; clear hown5 hgrow5 hat5)
    go_returns
    refine ⟨_, rfl, ?_, HG5.out, HA5.out.imp id fun h => ⟨_, h, Nat.le_refl _⟩⟩
    rw [partCells_app, partCells_one]
    exact HO5.out
theorem own_row {w : World} {B ib n cap m size : Nat} {t : TypeId} {xs : List Value} (h : w.ownsRow B t size (.slice (some ⟨ib, 0, none⟩) n cap) m xs) : ∃ cur, w.heap[ib]? = some (.cells cur t (0, 0)) ∧ n = m ∧ m ≤ cap ∧ cap ≤ maxLen ∧ cur.size = cap * size ∧ cur.toList.take (m * size) = xs := by
  rcases h.2 with ⟨e, _⟩ | ⟨g', cap', cur, e, _, h1, h2, h3, h4, h5⟩
  · cases e
  · simp only [Value.slice.injEq, Option.some.injEq, Addr.mk.injEq, and_true] at e
    obtain ⟨rfl, rfl, rfl⟩ := e
    exact ⟨cur, h1, rfl, h2, h3, h4, h5⟩
theorem own_mk {w : World} {ib n cap size : Nat} {t : TypeId} {xs : List Value} {cur : List Value} (hg : w.heap[ib]? = some (.cells cur.toArray t (0, 0))) (h2 : n ≤ cap) (h3 : cap ≤ maxLen) (h4 : cur.length = cap * size) (h5 : cur.take (n * size) = xs) (h6 : xs.length = n * size) : w.ownsRow 0 t size (.slice (some ⟨ib, 0, none⟩) n cap) n xs :=
  ⟨h6, .inr ⟨ib, cap, cur.toArray, rfl, Nat.zero_le _, hg, h2, h3, by simpa using h4, by simpa using h5⟩⟩
set_option maxRecDepth 100000 in
set_option maxHeartbeats 4000000 in
theorem ins_shift (ib n cap i : Nat) (L : List PartR) (hn : Hid (L.length = n)) (h9 : n ≤ 1000000) (hi : i < n) (hcap : n + 1 ≤ cap) (p : PartR) (vb : Nat) (hne : vb ≠ ib) (w : World) (hown : w.ownsRow 0 111 2 (.slice (some ⟨ib, 0, none⟩) n cap) n (partCells L)) (hv : Has w vb 111 (partCell p).toArray) :
    Calls Try.prog 69 #[.slice (some ⟨ib, 0, none⟩) n cap, .int .i64 i, .slice (some ⟨vb, 0, none⟩) 1 1] w (InsPost w (some ib) (n + 1) (L.take i ++ p :: L.drop i)) := by
  obtain ⟨i0, hinf, hz0, hz1, hz2⟩ := info_parts partInfo
  have hsz : (Try.prog.info? 111).map (·.size) = some 2 := by rw [hinf]; simp [hz1]
  obtain ⟨cur, hg, -, -, hcm, hcs, htk⟩ := own_row hown
  have hcl : (partCells L).length = n * 2 := by rw [partCells_len, hn.out]
  have hdl : ((partCells L).drop (i * 2)).length = (n - i) * 2 := by rw [List.length_drop, hcl]; omega
  have hcc := hown.cells (g := ib) rfl
  obtain ⟨R1, hR1⟩ : ∃ R, R = cur.toList.take ((i + 1) * 2) ++ (partCells L).drop (i * 2) ++ cur.toList.drop ((i + 1) * 2 + ((partCells L).drop (i * 2)).length) := ⟨_, rfl⟩
  obtain ⟨R2, hR2⟩ : ∃ R, R = R1.take (i * 2) ++ partCell p ++ R1.drop (i * 2 + (partCell p).length) := ⟨_, rfl⟩
  have hlc : cur.toList.length = cap * 2 := by simpa using hcs
  have hl1 : R1.length = cap * 2 := by rw [hR1]; simp only [List.length_append, List.length_take, List.length_drop, hlc, hcl]; omega
  have hl2 : R2.length = cap * 2 := by
    rw [hR2]; simp only [List.length_append, List.length_take, List.length_drop, hl1]
    have : (partCell p).length = 2 := rfl
    omega
  have hfin : R2.take ((n + 1) * 2) = partCells (L.take i ++ p :: L.drop i) := by
    have h := shift_lists cur.toList (partCell p) (i * 2) (n * 2) (by omega) (by have : (partCell p).length = 2 := rfl; omega) (partCells L) htk R1 (by rw [hR1]; rw [show (i + 1) * 2 = i * 2 + (partCell p).length by have : (partCell p).length = 2 := rfl; omega])
    rw [partCells_put L p i (by have := hn.out; omega), hR2, h]
    rw [List.take_append_of_le_length (by simp only [List.length_append, List.length_take, List.length_drop, hcl]; have : (partCell p).length = 2 := rfl; omega), List.take_of_length_le (by simp only [List.length_append, List.length_take, List.length_drop, hcl]; have : (partCell p).length = 2 := rfl; omega)]
  have hfl : (partCells (L.take i ++ p :: L.drop i)).length = (n + 1) * 2 := by
    rw [partCells_len, List.length_append, List.length_cons, List.length_take, List.length_drop]
    have := hn.out; omega
  have hcp1 : ∀ W : World, W.heap = w.heap → ∀ ty dc sc, (Builtin.copy_ #[117, 117] ty #[.slice (some ⟨ib, (i + 1) * 2, none⟩) (n - i) dc, .slice (some ⟨ib, i * 2, none⟩) (n + 1 - i) sc]).run Try.prog W = .ok (goInt (n - i : Nat)) (W.setRow ib R1.toArray) := fun W hW ty dc sc => by
    have h := run_copy_rowS (P := Try.prog) W 117 117 ty 111 2 ib ((i + 1) * 2) (n - i) dc ⟨ib, i * 2, none⟩ (n + 1 - i) sc cur 111 ((partCells L).drop (i * 2)) Try.underlying117 hsz (by rw [hW]; exact hg)
      (by rw [hdl]; congr 1; simp only [Nat.min_def]; split <;> omega) (fun j v hj => ?_) (by rw [hdl, hcs]; omega) (fun v hv => partCells_lit L v (List.mem_of_mem_drop hv))
    · rw [h, ← hR1]
      congr 2
      simp only [Nat.min_def]; split <;> omega
    · rw [List.getElem?_drop] at hj
      have h0 := hcc (i * 2 + j) v hj
      rw [addr_add] at h0
      rw [Addr.add_lit]
      simpa [World.cell?, hW] using h0
  have hcp2 : ∀ W : World, W.heap = w.heap → ∀ ty dc, (Builtin.copy_ #[117, 117] ty #[.slice (some ⟨ib, i * 2, none⟩) (n + 1 - i) dc, .slice (some ⟨vb, 0, none⟩) 1 1]).run Try.prog (W.setRow ib R1.toArray) = .ok (goInt 1) ((W.setRow ib R1.toArray).setRow ib R2.toArray) := fun W hW ty dc => by
    have hg1 : (W.setRow ib R1.toArray).heap[ib]? = some (.cells R1.toArray 111 (0, 0)) := setRow_heap W ib cur R1.toArray 111 (0, 0) (by rw [hW]; exact hg)
    have h := run_copy_rowS (P := Try.prog) (W.setRow ib R1.toArray) 117 117 ty 111 2 ib (i * 2) (n + 1 - i) dc ⟨vb, 0, none⟩ 1 1 R1.toArray 111 (partCell p) Try.underlying117 hsz hg1
      (by rw [show Nat.min 1 (n + 1 - i) = 1 by simp only [Nat.min_def]; split <;> omega]; rfl) (fun j v hj => ?_) (by have : (partCell p).length = 2 := rfl; simp only [List.size_toArray, hl1]; omega) (partCell_lit p)
    · rw [h, ← hR2]
      congr 2
      simp only [Nat.min_def]; split <;> omega
    · have h0 := has_cells hv j v hj
      rw [addr_add] at h0 ⊢
      rw [World.cell?_of_block (setRow_other W ib vb R1.toArray hne)]
      simpa [World.cell?, hW] using h0
  have hov : ∀ W : World, W.heap = w.heap → ∀ lb cb, (callFunc 77 #[.slice (some ⟨vb, 0, none⟩) 1 1, .slice (some ⟨ib, (i + 1) * 2, none⟩) lb cb]).run Try.prog W = .ok (.value (.bool false)) W := fun W hW lb cb => by
    rw [run_callFunc_extern Try.func77 (by kernel_rfl) (by kernel_rfl) (by kernel_rfl) (e := Extern.SlicesOverlaps.overlaps #[117, 117] #[4]) (by kernel_rfl),
      Lib.run_overlaps_apart W 117 4 111 Try.underlying117 2 (fun w => by simp [Go.sizeOf, typeInfo, hinf, hz1]) ⟨vb, 0, none⟩ ⟨ib, (i + 1) * 2, none⟩ 1 1 lb cb hne 111 111 2 (cap * 2) (by have := hv; unfold Has at this; simp [World.shape?, hW, this, partCell]) (by simp [World.shape?, hW, hg, hcs]) (by omega) (by have := hv; unfold Has at this; simp [World.frozen?, hW, this]) (by have := hv; unfold Has at this; simp [World.frozen?, hW, this])]
    rfl
  have hpost : ∀ W : World, W.heap = w.heap → W.os = w.os → W.tape = w.tape → W.output = w.output → InsPost w (some ib) (n + 1) (L.take i ++ p :: L.drop i) (.returned (.slice (some ⟨ib, 0, none⟩) (n + 1) cap)) ((W.setRow ib R1.toArray).setRow ib R2.toArray) := fun W hW e1 e2 e3 =>
    ⟨_, rfl, own_mk (setRow_heap _ ib R1.toArray R2.toArray 111 (0, 0) (setRow_heap W ib cur R1.toArray 111 (0, 0) (by rw [hW]; exact hg))) hcap hcm hl2 hfin hfl,
      ⟨e1, e2, e3, by simp [World.setRow, hW], fun k hk hne' => by
        have hk2 : k ≠ ib := fun e => hne' (by rw [e])
        rw [setRow_other _ ib k _ hk2, setRow_other W ib k _ hk2, hW]⟩, .inl rfl⟩
  have HP := hid hpost
  have hz3 : ¬ ((i : Int) = (n : Int)) := by omega
  have hz4 : ¬ ((cap : Int) < (n : Int) + 1) := by omega
  have hw1 : IntKind.i64.wrap ((i : Int) + 1) = (i : Int) + 1 := by rw [IntKind.wrap_i64]; omega
  have hb1 : (0 : Int) ≤ (i : Int) + 1 := by omega
  have htn : ((i : Int) + 1).toNat = i + 1 := by omega
  have hb2 : ¬ (cap = i + 1) := by omega
  have hb3 : (i : Int) ≤ (n : Int) := by omega
  have hb4 : ¬ (cap = i) := by omega
  have hb5 : (i : Int) ≤ (n : Int) + 1 := by omega
  have h1 : (0 : Int) < 1 := by omega
  unfold maxLen at hcm
  have hcm2 : cap ≤ 9223372036854775807 := by omega
  have HC1 := hid hcp1
  have HC2 := hid hcp2
  have HOV := hid hov
  clear hpost hcp1 hcp2 hov hown hv hfin hfl hR1 hR2 hl1 hl2 hcc hdl hcl hg htk hlc hcs hsz hinf hz0 hz1 hz2
  go_enter Try.func69, Try.ntmps69
  go_wp2_with (simp only [HOV.out _ rfl])
  go_region_law (refine step_copy_runI rfl (.tmp 73) (.tmp 76) 117 117 rfl (.slice (some ⟨ib, (i + 1) * 2, none⟩) (n - i) (cap - (i + 1))) (.slice (some ⟨ib, i * 2, none⟩) (n + 1 - i) (cap - i)) (by simp [Act.eval, Act.put]) (by simp [Act.eval, Act.put]) (HC1.out w.drew rfl 3 (cap - (i + 1)) (cap - i)) ?_)
  go_wp2_with (with_reducible refine wpList_copy_runI _ rfl (.tmp 80) (.tmp 81) 117 117 rfl _ _ rfl rfl (HC2.out w.drew rfl _ _) ?_)
  go_returns
  exact HP.out w.drew rfl rfl rfl rfl
set_option maxRecDepth 100000 in
set_option maxHeartbeats 4000000 in
theorem ins_grow (ib n i : Nat) (L : List PartR) (hn : Hid (L.length = n)) (h9 : n ≤ 1000000) (hi : i < n) (p : PartR) (vb : Nat) (hne : vb ≠ ib) (w : World) (hown : w.ownsRow 0 111 2 (.slice (some ⟨ib, 0, none⟩) n n) n (partCells L)) (hv : Has w vb 111 (partCell p).toArray) :
    Calls Try.prog 69 #[.slice (some ⟨ib, 0, none⟩) n n, .int .i64 i, .slice (some ⟨vb, 0, none⟩) 1 1] w (InsPost w (some ib) (n + 1) (L.take i ++ p :: L.drop i)) := by
  obtain ⟨i0, hinf, hz0, hz1, hz2⟩ := info_parts partInfo
  have hsz : (Try.prog.info? 111).map (·.size) = some 2 := by rw [hinf]; simp [hz1]
  obtain ⟨cur, hg, -, -, hcm, hcs, htk⟩ := own_row hown
  have h3 : (partCell p).length = 2 := rfl
  have hcl : (partCells L).length = n * 2 := by rw [partCells_len, hn.out]
  have hdl : ((partCells L).drop (i * 2)).length = (n - i) * 2 := by rw [List.length_drop, hcl]; omega
  have htl : ((partCells L).take (i * 2)).length = i * 2 := by rw [List.length_take, hcl]; omega
  have hcc := hown.cells (g := ib) rfl
  have hbw : ib < w.heap.size := (Array.getElem?_eq_some_iff.1 hg).1
  have hvw : vb < w.heap.size := hv.lt
  obtain ⟨G, hG⟩ : ∃ G, G = grownCap w (n + 1) n 111 := ⟨_, rfl⟩
  have hGn : n + 1 ≤ G := by rw [hG]; exact grownCap_ge w _ _ _
  have hGm : G ≤ maxLen := by rw [hG]; exact grownCap_le_maxLen w _ _ _ (by unfold maxLen; omega)
  have hold : (Builtin.firstCells i0.size i (.slice (some ⟨ib, 0, none⟩) i n)).run Try.prog w.drew = .ok ((partCells L).take (i * 2)).toArray w.drew := by
    have h := run_loadCells_list (P := Try.prog) w.drew ⟨ib, 0, none⟩ ((partCells L).take (i * 2)) (fun j v hj => by
      rw [List.getElem?_take] at hj
      split at hj
      · exact hcc j v hj
      · cases hj)
    rw [htl] at h
    simpa [Builtin.firstCells, hz1] using h
  obtain ⟨ROW, hROW⟩ : ∃ ROW : Array Value, ROW = ((partCells L).take (i * 2)).toArray ++ Builtin.zeroCells (Value.agg #[.int .i64 0, .int .i64 0]).cells (n + 1 - i) ++ Builtin.zeroCells (Value.agg #[.int .i64 0, .int .i64 0]).cells (G - (n + 1)) := ⟨_, rfl⟩
  have hrz : ∀ ty, (Builtin.append_ #[117, 3] ty #[.slice (some ⟨ib, 0, none⟩) i n, .int .i64 ((n : Int) + 1 - (i : Int))]).run Try.prog w = .ok (.slice (some ⟨w.heap.size, 0, none⟩) (n + 1) G) (w.drew.alloc (.cells ROW 111)) := fun ty => by
    have hkk : (n : Int) + 1 - (i : Int) = ((n + 1 - i : Nat) : Int) := by omega
    have hik : i + (n + 1 - i) = n + 1 := by omega
    have h := Lib.run_append_grow_zeros (P := Try.prog) w 117 3 ty 111 i0 _ .i64 .i64 Try.underlying117 Try.underlying3 hinf hz0 (some ⟨ib, 0, none⟩) i n ((partCells L).take (i * 2)) hold (n + 1 - i) (by omega) (by omega) (by omega) (by omega) (by rw [hz2]; omega) (by rw [hz2, hik]; exact growslice_fits (by omega) (by omega))
    rw [hik, ← hG, ← hROW] at h
    rw [hkk]
    exact h
  obtain ⟨Z, hZ, hRZ⟩ : ∃ Z : List Value, Z.length = (G - i) * 2 ∧ ROW.toList = (partCells L).take (i * 2) ++ Z := by
    refine ⟨(Builtin.zeroCells (Value.agg #[.int .i64 0, .int .i64 0]).cells (n + 1 - i)).toList ++ (Builtin.zeroCells (Value.agg #[.int .i64 0, .int .i64 0]).cells (G - (n + 1))).toList, ?_, by rw [hROW]; simp⟩
    simp [Builtin.zeroCells, Value.cells]
    omega
  clear hROW hold
  obtain ⟨R1, hR1⟩ : ∃ R, R = ROW.toList.take (i * 2) ++ partCell p ++ ROW.toList.drop (i * 2 + (partCell p).length) := ⟨_, rfl⟩
  obtain ⟨R2, hR2⟩ : ∃ R, R = R1.take ((i + 1) * 2) ++ (partCells L).drop (i * 2) ++ R1.drop ((i + 1) * 2 + ((partCells L).drop (i * 2)).length) := ⟨_, rfl⟩
  have hrl : ROW.size = G * 2 := by
    have : ROW.toList.length = G * 2 := by rw [hRZ, List.length_append, htl, hZ]; omega
    simpa using this
  have hl1 : R1.length = G * 2 := by
    rw [hR1]; simp only [List.length_append, List.length_take, List.length_drop, h3, Array.length_toList, hrl]; omega
  have hall := grow_lists (partCells L) (partCell p) Z (i * 2) (by omega) (by rw [h3, hcl, hZ]; omega) R1 R2 (by rw [hR1, hRZ]) (by rw [hR2, show (i + 1) * 2 = i * 2 + (partCell p).length by rw [h3]; omega])
  have hl2 : R2.length = G * 2 := by rw [hall.2, hZ]; omega
  have hfin : R2.take ((n + 1) * 2) = partCells (L.take i ++ p :: L.drop i) := by
    rw [partCells_put L p i (by have := hn.out; omega), ← hall.1, hcl, h3]
    congr 1; omega
  have hfl : (partCells (L.take i ++ p :: L.drop i)).length = (n + 1) * 2 := by
    rw [partCells_len, List.length_append, List.length_cons, List.length_take, List.length_drop]
    have := hn.out; omega
  have hnw : (w.alloc (.cells ROW 111)).heap[w.heap.size]? = some (.cells ROW 111 (0, 0)) := heap_alloc_new w _
  have hcpA : ∀ W : World, W.heap = (w.alloc (.cells ROW 111)).heap → ∀ ty dc, (Builtin.copy_ #[117, 117] ty #[.slice (some ⟨w.heap.size, i * 2, none⟩) (n + 1 - i) dc, .slice (some ⟨vb, 0, none⟩) 1 1]).run Try.prog W = .ok (goInt 1) (W.setRow w.heap.size R1.toArray) := fun W hW ty dc => by
    have h := run_copy_rowS (P := Try.prog) W 117 117 ty 111 2 w.heap.size (i * 2) (n + 1 - i) dc ⟨vb, 0, none⟩ 1 1 ROW 111 (partCell p) Try.underlying117 hsz (by rw [hW]; exact hnw)
      (by rw [show Nat.min 1 (n + 1 - i) = 1 by simp only [Nat.min_def]; split <;> omega]; rfl) (fun j v hj => ?_) (by rw [h3, hrl]; omega) (partCell_lit p)
    · rw [h, ← hR1]
      congr 2
      simp only [Nat.min_def]; split <;> omega
    · have h0 := has_cells (hv.alloc (.cells ROW 111)) j v hj
      simpa [World.cell?, hW] using h0
  have hcpB : ∀ W : World, W.heap = ((w.alloc (.cells ROW 111)).setRow w.heap.size R1.toArray).heap → ∀ ty dc sc, (Builtin.copy_ #[117, 117] ty #[.slice (some ⟨w.heap.size, (i + 1) * 2, none⟩) (n - i) dc, .slice (some ⟨ib, i * 2, none⟩) (n - i) sc]).run Try.prog W = .ok (goInt (n - i : Nat)) (W.setRow w.heap.size R2.toArray) := fun W hW ty dc sc => by
    have hg1 : W.heap[w.heap.size]? = some (.cells R1.toArray 111 (0, 0)) := by rw [hW]; exact setRow_heap _ _ _ R1.toArray 111 (0, 0) hnw
    have h := run_copy_rowS (P := Try.prog) W 117 117 ty 111 2 w.heap.size ((i + 1) * 2) (n - i) dc ⟨ib, i * 2, none⟩ (n - i) sc R1.toArray 111 ((partCells L).drop (i * 2)) Try.underlying117 hsz hg1
      (by rw [hdl]; congr 1; simp only [Nat.min_def]; split <;> omega) (fun j v hj => ?_) (by rw [hdl]; simp only [List.size_toArray, hl1]; omega) (fun v hv => partCells_lit L v (List.mem_of_mem_drop hv))
    · rw [h, ← hR2]
      congr 2
      simp only [Nat.min_def]; split <;> omega
    · rw [List.getElem?_drop] at hj
      have h0 := hcc (i * 2 + j) v hj
      rw [addr_add] at h0
      rw [Addr.add_lit]
      have e1 : W.cell? ⟨ib, i * 2 + j, none⟩ = (w.alloc (.cells ROW 111)).cell? ⟨ib, i * 2 + j, none⟩ := World.cell?_of_block (by rw [hW]; exact setRow_other _ w.heap.size ib R1.toArray (by omega))
      rw [e1, World.cell?_of_block (Below.heap_alloc w _ ib hbw)]
      exact h0
  have hpost : ∀ F : World, F.heap = (((w.alloc (.cells ROW 111)).setRow w.heap.size R1.toArray).setRow w.heap.size R2.toArray).heap → F.os = w.os → F.tape = w.tape → F.output = w.output → InsPost w (some ib) (n + 1) (L.take i ++ p :: L.drop i) (.returned (.slice (some ⟨w.heap.size, 0, none⟩) (n + 1) G)) F := fun F hF e1 e2 e3 =>
    ⟨_, rfl, own_mk (by rw [hF]; exact setRow_heap _ _ R1.toArray R2.toArray 111 (0, 0) (setRow_heap _ _ _ R1.toArray 111 (0, 0) hnw)) hGn hGm hl2 hfin hfl,
      ⟨e1, e2, e3, by rw [hF]; simp [World.setRow], fun k hk _ => by
        rw [hF, setRow_other _ w.heap.size k _ (by omega), setRow_other _ w.heap.size k _ (by omega)]
        exact Below.heap_alloc w _ k hk⟩, .inr ⟨_, rfl, Nat.le_refl _⟩⟩
  have hz3 : ¬ ((i : Int) = (n : Int)) := by omega
  have hz4 : (n : Int) < (n : Int) + 1 := by omega
  have hw1 : IntKind.i64.wrap ((i : Int) + 1) = (i : Int) + 1 := by rw [IntKind.wrap_i64]; omega
  have hb1 : (0 : Int) ≤ (i : Int) + 1 := by omega
  have htn : ((i : Int) + 1).toNat = i + 1 := by omega
  have hb2 : ¬ (G = i + 1) := by omega
  have hb3 : (i : Int) ≤ (n : Int) := by omega
  have hb4 : ¬ (n = i) := by omega
  have hb5 : ¬ (G = i) := by omega
  have hb6 : (i : Int) ≤ (n : Int) + 1 := by omega
  have h1 : (0 : Int) < 1 := by omega
  unfold maxLen at hGm
  have hG63 : G ≤ 9223372036854775807 := by omega
  have HP := hid hpost
  have HCA := hid hcpA
  have HCB := hid hcpB
  have HRZ := hid hrz
  clear hpost hcpA hcpB hrz hown hv hfin hfl hR1 hR2 hl1 hl2 hcc hdl hcl hg htk hcs hsz hinf hz0 hz1 hz2 hRZ hZ hrl hall hnw h3 htl hG hcm
  go_enter Try.func69, Try.ntmps69
  go_wp2_with (first
    | (at_builtin; refine Lib.wpList_append_run _ rfl (.tmp 34) (.tmp 39) 117 3 rfl _ _ rfl rfl _ _ (HRZ.out _) ?_)
    | (with_reducible refine wpList_copy_runI _ rfl (.tmp 43) (.tmp 44) 117 117 rfl _ _ rfl rfl (HCA.out ((w.alloc (.cells ROW 111)).drew) rfl _ _) ?_))
  go_region_law (refine step_copy_runI rfl (.tmp 50) (.tmp 53) 117 117 rfl (.slice (some ⟨w.heap.size, (i + 1) * 2, none⟩) (n - i) (G - (i + 1))) (.slice (some ⟨ib, i * 2, none⟩) (n - i) (n - i)) (by simp [Act.eval, Act.put]) (by simp [Act.eval, Act.put]) (HCB.out (((w.alloc (.cells ROW 111)).drew.setRow w.heap.size R1.toArray).drew) rfl 3 (G - (i + 1)) (n - i)) ?_)
  go_wp2
  go_returns
  exact HP.out _ rfl rfl rfl rfl
end Go.Proofs.Ytciaebhkemdilab
