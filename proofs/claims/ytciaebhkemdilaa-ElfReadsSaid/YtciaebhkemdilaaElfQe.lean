/- Rows of bytes that a call owns, several side by side: what an append does to the others (general). -/
import Derived.Test.YtciaebhkemdilaaElfQa
namespace Go.Proofs.Ytciaebhkemdilaa
open Go.RowKit
set_option linter.unusedVariables false
set_option linter.unusedSimpArgs false
/-- w' is W but for v's block, which may have grown, and new blocks; v' lies in v's block or in a new one. -/
structure Grew (W w' : World) (v v' : Value) : Prop where
  gb : W.grownBy w' v.ownBlock
  own : ∀ j, v'.ownBlock = some j → v.ownBlock = some j ∨ W.heap.size ≤ j
def Apart (u v : Value) : Prop := ∀ j, u.ownBlock = some j → v.ownBlock ≠ some j
theorem Apart.symm {u v : Value} (h : Apart u v) : Apart v u := fun j hj k => h j k hj
section
variable {W W1 w' w'' : World} {u v v' v'' : Value} {B : Nat} {e : TypeId} {s t : ByteArray}
theorem Grew.refl (W : World) (v : Value) : Grew W W v v := ⟨⟨rfl, rfl, rfl, Nat.le_refl _, fun _ _ _ => rfl⟩, fun _ h => .inl h⟩
theorem Grew.bw (h : Bw W W1) (g : Grew W1 w' v v') : Grew W w' v v' :=
  ⟨⟨g.gb.os.trans h.os, g.gb.tape.trans h.tape, g.gb.output.trans h.output, Nat.le_trans h.size g.gb.size, fun k hk hn => (g.gb.block k (Nat.lt_of_lt_of_le hk h.size) hn).trans (h.block k hk)⟩, fun j hj => (g.own j hj).imp_right fun x => Nat.le_trans h.size x⟩
theorem Grew.trans (h : Grew W W1 v v') (g : Grew W1 w' v' v'') : Grew W w' v v'' :=
  ⟨⟨g.gb.os.trans h.gb.os, g.gb.tape.trans h.gb.tape, g.gb.output.trans h.gb.output, Nat.le_trans h.gb.size g.gb.size, fun k hk hn => (g.gb.block k (Nat.lt_of_lt_of_le hk h.gb.size) (fun x => by
    rcases h.own k x.symm with y | y
    · exact hn y.symm
    · omega)).trans (h.gb.block k hk hn)⟩, fun j hj => by
    rcases g.own j hj with x | x
    · exact h.own j x
    · exact .inr (Nat.le_trans h.gb.size x)⟩
theorem Grew.later (h : Grew W W1 v v') (g : Bw W1 w') : Grew W w' v v' :=
  ⟨⟨g.os.trans h.gb.os, g.tape.trans h.gb.tape, g.output.trans h.gb.output, Nat.le_trans h.gb.size g.size, fun k hk hn => (g.block k (Nat.lt_of_lt_of_le hk h.gb.size)).trans (h.gb.block k hk hn)⟩, h.own⟩
theorem Grew.below {w : World} (g : Grew W w' v v') (hr : RowM W B e v s) (hb : Below B w W) (hB : B ≤ W.heap.size) : Below B w w' := hr.grown g.gb hb hB
theorem Grew.keep (g : Grew W w' v v') (hu : RowM W B e u t) (ha : Apart u v) : RowM w' B e u t ∧ Apart u v' :=
  ⟨hu.keep fun b hb => g.gb.block b (hu.lt hb).2 (fun x => ha b hb x.symm), fun j hj k => by
    rcases g.own j k with x | x
    · exact ha j hj x
    · have := (hu.lt hj).2; omega⟩
end
section
variable {P : Program} (w : World)
theorem app_room_row (t ty e : TypeId) (i : TypeInfo) (ht : P.underlying t = some (.slice e)) (hi : P.info? e = some i) (hs1 : i.size = 1)
    (g sLen sCap : Nat) (cur : Array Value) (fz : Nat × Nat) (hg : w.heap[g]? = some (.cells cur e fz)) (hfz : fz.2 = 0 ∨ cur.size ≤ fz.1) (a : Addr) (c : Nat) (x : ByteArray)
    (hnews : ∀ j u, (Lib.strCells x)[j]? = some u → w.cell? (a.add j) = some u) (hroom : sLen + x.size ≤ sCap) (hfit : sLen + x.size ≤ cur.size) :
    (Builtin.append_ #[t, t] ty #[.slice (some ⟨g, 0, none⟩) sLen sCap, .slice (some a) x.size c]).run P w =
      .ok (.slice (some ⟨g, 0, none⟩) (sLen + x.size) sCap) (w.setRow g (cur.toList.take sLen ++ Lib.strCells x ++ cur.toList.drop (sLen + x.size)).toArray) := by
  have hxl := Lib.strCells_length x
  have hf := run_firstCells_some (P := P) w i.size x.size a x.size c (Lib.strCells x) (by rw [hs1, hxl, Nat.mul_one]) hnews
  have hst := run_storeM P g (sLen * i.size) e fz (Lib.strCells x) 0 cur w hg hfz (by rw [hs1, hxl]; simpa using hfit) (Lib.strCells_oneCell x)
  simp only [Nat.add_zero, hs1, Nat.mul_one, hxl] at hst
  rw [hs1] at hf
  simp [Builtin.append_, run_underlying ht, sizeOf, typeInfo, hi, hs1, Builtin.lenOf, hroom, hf, Addr.add_lit, hst]
/-- Bytes that lie somewhere are appended. -/
theorem app_rowG (B : Nat) (t ty e : TypeId) (i : TypeInfo) (ht : P.underlying t = some (.slice e)) (hi : P.info? e = some i) (hz : i.zero = some (.int .u8 0))
    (h1 : i.size = 1) (h2 : i.bytes = 1) (v : Value) (x : ByteArray) (hown : RowM w B e v x) (a : Addr) (c : Nat) (s : ByteArray) (hs0 : 0 < s.size) (hnews : ∀ j u, (Lib.strCells s)[j]? = some u → w.cell? (a.add j) = some u) (hb : x.size + s.size ≤ 140737488355328) (hB : B ≤ w.heap.size) :
    ∃ v' w', (Builtin.append_ #[t, t] ty #[v, .slice (some a) s.size c]).run P w = .ok v' w' ∧ RowM w' B e v' (x ++ s) ∧ Grew w w' v v' := by
  have hm : x.size + s.size ≤ maxLen := by unfold maxLen; omega
  have hsl : (Lib.strCells s).length = s.size := Lib.strCells_length s
  rcases hown with ⟨rfl, h0⟩ | ⟨g, cap, cur, fz, rfl, hbg, hg, hfz, hnc, hcm, hcs, htk⟩
  · have hx : Lib.strCells x = [] := List.eq_nil_of_length_eq_zero (by rw [Lib.strCells_length, h0])
    obtain ⟨v', w', hr, hw, hgr, _⟩ := run_append_own (P := P) w w.heap.size t ty e i (.int .u8 0) 1 1 ht hi hz h1 h2 rfl (by decide) (.slice none 0 0) 0 [] (World.ownsRow_nil _ _ _ _) a s.size c (Lib.strCells s) (by rw [hsl, Nat.mul_one]) hnews (Lib.strCells_oneCell s) (by omega) (by omega) (Nat.le_refl _)
    have ez : (x ++ s).size = s.size := by rw [ByteArray.size_append, h0, Nat.zero_add]
    have ec : Lib.strCells (x ++ s) = Lib.strCells s := by rw [strCells_app, hx, List.nil_append]
    simp only [Nat.zero_add, List.nil_append] at hw
    rcases hw.2 with ⟨rfl, h⟩ | ⟨g, cap, cur, rfl, k1, k2, k3, k4, k5, k6⟩
    · omega
    · exact ⟨_, w', hr, .inr ⟨g, cap, cur, (0, 0), by rw [ez], Nat.le_trans hB k1, k2, .inl rfl, by rw [ez]; exact k3, k4, by simpa using k5, by rw [ez, ec]; simpa using k6⟩, hgr, fun j hj => .inr (by
        have : g = j := by simpa [Value.ownBlock] using hj
        omega)⟩
  · by_cases hroom : x.size + s.size ≤ cap
    · have hr := app_room_row (P := P) w t ty e i ht hi h1 g x.size cap cur fz hg hfz a c s hnews hroom (by omega)
      refine ⟨_, _, hr, .inr ⟨g, cap, _, fz, by rw [ByteArray.size_append], hbg, setRow_heap w g cur _ e _ hg, ?_, by rw [ByteArray.size_append]; exact hroom, hcm, ?_, ?_⟩, ⟨rfl, rfl, rfl, by simp, fun k _ hk => setRow_other w g k _ (fun e => hk (by simp [Value.ownBlock, e]))⟩, fun j hj => .inl hj⟩
      · refine hfz.imp_right fun h => ?_
        simp only [List.size_toArray, List.length_append, List.length_take, List.length_drop, Array.length_toList, hsl]
        omega
      · simp only [List.size_toArray, List.length_append, List.length_take, List.length_drop, Array.length_toList, hsl]
        omega
      · rw [htk, ← strCells_app]
        have : (x ++ s).size = (Lib.strCells (x ++ s)).length := by rw [Lib.strCells_length]
        rw [this]
        exact List.take_left
    · have hxl : (Lib.strCells x).length = x.size := Lib.strCells_length x
      have hcell := RowM.cells (w := w) (B := B) (e := e) (s := x) (g := g) (cap := cap) (.inr ⟨g, cap, cur, fz, rfl, hbg, hg, hfz, hnc, hcm, hcs, htk⟩)
      have hr := run_append_grow (P := P) w t ty e i (.int .u8 0) ht hi hz ⟨g, 0, none⟩ x.size cap (Lib.strCells x) (by rw [h1]; simpa using hxl) hcell a s.size c (Lib.strCells s) (by rw [h1, hsl, Nat.mul_one]) hnews (by omega) (by omega) (by rw [h2]; exact growslice_fits (by omega) (by omega))
      have hge := grownCap_ge w (x.size + s.size) cap e
      have hcm2 : grownCap w (x.size + s.size) cap e ≤ maxLen := grownCap_le_maxLen w (x.size + s.size) cap e hm
      refine ⟨_, _, hr, .inr ⟨w.heap.size, _, _, (0, 0), by rw [ByteArray.size_append], hB, heap_alloc_new w.drew _, .inl rfl, by rw [ByteArray.size_append]; exact hge, hcm2, ?_, ?_⟩, ⟨rfl, rfl, rfl, by simp, fun k hk _ => Below.heap_alloc w.drew _ k hk⟩, fun j hj => .inr (by
        have : w.heap.size = j := by simpa [Value.ownBlock] using hj
        omega)⟩
      · have hz1 : (Value.int IntKind.u8 0).cells.size = 1 := rfl
        simp only [Array.size_append, List.size_toArray, size_zeroCells, hz1, hxl, hsl]
        omega
      · simp only [Array.toList_append, List.append_assoc]
        rw [← List.append_assoc, ← strCells_app]
        have : (x ++ s).size = (Lib.strCells (x ++ s)).length := by rw [Lib.strCells_length]
        rw [this]
        exact List.take_left
/-- A text is appended. -/
theorem app_strG (B : Nat) (t u ty e : TypeId) (i : TypeInfo) (ht : P.underlying t = some (.slice e)) (hu : P.underlying u = some .string) (hi : P.info? e = some i) (hz : i.zero = some (.int .u8 0))
    (h1 : i.size = 1) (h2 : i.bytes = 1) (v : Value) (x : ByteArray) (hown : RowM w B e v x) (s : ByteArray) (hb : x.size + s.size ≤ 140737488355328) (hB : B ≤ w.heap.size) :
    ∃ v' w', (Builtin.append_ #[t, u] ty #[v, .string s]).run P w = .ok v' w' ∧ RowM w' B e v' (x ++ s) ∧ Grew w w' v v' := by
  obtain ⟨v', w', hr, hrow, hgr⟩ := app_strM (P := P) w B t u ty e i ht hu hi hz h1 h2 v x hown s hb hB
  refine ⟨v', w', hr, hrow, hgr, fun j hj => ?_⟩
  rcases hown with ⟨rfl, h0⟩ | ⟨g, cap, cur, fz, rfl, hbg, hg, hfz, hnc, hcm, hcs, htk⟩
  · obtain ⟨v2, w2, hr2, hrow2, -⟩ := app_strM (P := P) w w.heap.size t u ty e i ht hu hi hz h1 h2 (.slice none 0 0) x (.inl ⟨rfl, h0⟩) s hb (Nat.le_refl _)
    rw [hr] at hr2
    injection hr2 with a1 a2
    subst a1 a2
    exact .inr (hrow2.lt hj).1
  · by_cases hroom : x.size + s.size ≤ cap
    · have hr2 := app_room (P := P) w t u ty e i ht hu hi h1 g x.size cap cur fz hg hfz s hroom (by omega)
      rw [hr] at hr2
      injection hr2 with a1 a2
      subst a1
      exact .inl hj
    · have hxl : (Lib.strCells x).length = x.size := Lib.strCells_length x
      have hcell := RowM.cells (w := w) (B := B) (e := e) (s := x) (g := g) (cap := cap) (.inr ⟨g, cap, cur, fz, rfl, hbg, hg, hfz, hnc, hcm, hcs, htk⟩)
      have hr2 := Lib.run_append_grow_string (P := P) w t u ty e i (.int .u8 0) ht hu hi hz ⟨g, 0, none⟩ x.size cap (Lib.strCells x) (by rw [h1]; simpa using hxl) hcell s (by omega) (by omega) (by rw [h2]; exact growslice_fits (by omega) (by omega))
      rw [hr] at hr2
      injection hr2 with a1 a2
      subst a1
      exact .inr (by
        have : w.heap.size = j := by simpa [Value.ownBlock] using hj
        omega)
end
theorem wpList_app_strG {P : Program} {w : World} {ops : Array Oper} {rest : List Oper} {o : Oper} {a : Act} {Q : Exit → Act → World → Prop} (hgd : o.guard = none) (x y : Operand) (t u : TypeId)
    (ho : o.op = .call { callee := .builtin .append, args := #[x, y], argTypes := #[t, u] }) (B : Nat) {e : TypeId} {i : TypeInfo} (ht : P.underlying t = some (.slice e)) (hu : P.underlying u = some .string) (hi : P.info? e = some i) (hz : i.zero = some (.int .u8 0))
    (h1 : i.size = 1) (h2 : i.bytes = 1) (v : Value) (r : ByteArray) (hx : a.eval x = v) (hown : RowM w B e v r) (s : ByteArray) (hy : a.eval y = .string s) (hb : r.size + s.size ≤ 140737488355328) (hB : B ≤ w.heap.size)
    (h : ∀ v' w', RowM w' B e v' (r ++ s) → Grew w w' v v' → wpList P ops Q rest (a.put o.dst v') w') : wpList P ops Q (o :: rest) a w := by
  refine wpList_plain hgd fun K hK => ?_
  obtain ⟨v', w', hr, k1, k2⟩ := app_strG (P := P) w B t u o.type e i ht hu hi hz h1 h2 v r hown s hb hB
  unfold Oper.wp execOp
  simp only [ho, resolve, invoke, builtin, Sem.run_bind, Sem.run_pure, Result.andThen_ok, List.map_toArray, List.map_cons, List.map_nil, hx, hy, hr]
  exact hK _ _ (h v' w' k1 k2)
theorem wpList_app_rowG {P : Program} {w : World} {ops : Array Oper} {rest : List Oper} {o : Oper} {a : Act} {Q : Exit → Act → World → Prop} (hgd : o.guard = none) (x y : Operand) (t : TypeId)
    (ho : o.op = .call { callee := .builtin .append, args := #[x, y], argTypes := #[t, t] }) (B : Nat) {e : TypeId} {i : TypeInfo} (ht : P.underlying t = some (.slice e)) (hi : P.info? e = some i) (hz : i.zero = some (.int .u8 0))
    (h1 : i.size = 1) (h2 : i.bytes = 1) (v : Value) (r : ByteArray) (hx : a.eval x = v) (hown : RowM w B e v r) (s : ByteArray) (n : Nat) (hn : s.size = n) (hs0 : 0 < n) (ad : Addr) (c : Nat) (hy : a.eval y = .slice (some ad) n c) (hnew : ∀ j u, (Lib.strCells s)[j]? = some u → w.cell? (ad.add j) = some u) (hb : r.size + n ≤ 140737488355328) (hB : B ≤ w.heap.size)
    (h : ∀ v' w', RowM w' B e v' (r ++ s) → Grew w w' v v' → wpList P ops Q rest (a.put o.dst v') w') : wpList P ops Q (o :: rest) a w := by
  subst hn
  refine wpList_plain hgd fun K hK => ?_
  obtain ⟨v', w', hr, k1, k2⟩ := app_rowG (P := P) w B t o.type e i ht hi hz h1 h2 v r hown ad c s hs0 hnew hb hB
  unfold Oper.wp execOp
  simp only [ho, resolve, invoke, builtin, Sem.run_bind, Sem.run_pure, Result.andThen_ok, List.map_toArray, List.map_cons, List.map_nil, hx, hy, hr]
  exact hK _ _ (h v' w' k1 k2)
/-- A text is copied over the beginning of a row. -/
def overT (s t : ByteArray) : ByteArray := t ++ s.extract t.size s.size
theorem overT_app (a b t : ByteArray) (h : a.size = t.size) : overT (a ++ b) t = t ++ b := by
  unfold overT
  congr 1
  apply ba_ext
  rw [ext_list, app_list, ByteArray.size_append, ← h, size_list, size_list, List.drop_left, Nat.add_sub_cancel_left, List.take_length]
theorem copyM_run {P : Program} {w : World} (t u ty : TypeId) (B : Nat) {e : TypeId} {i : TypeInfo} (ht : P.underlying t = some (.slice e)) (hi : P.info? e = some i)
    (h1 : i.size = 1) (v : Value) (r : ByteArray) (hown : RowM w B e v r) (s : ByteArray) (hs0 : 0 < r.size) (hs : s.size ≤ r.size) :
    ∃ w', (Builtin.copy_ #[t, u] ty #[v, .string s]).run P w = .ok (goInt s.size) w' ∧ RowM w' B e v (overT r s) ∧ w.grownBy w' v.ownBlock := by
  rcases hown with ⟨rfl, h0⟩ | ⟨g, cap, cur, fz, rfl, hbg, hg, hfz, hnc, hcm, hcs, htk⟩
  · omega
  have hsl : (Lib.strCells s).length = s.size := Lib.strCells_length s
  have hst := run_storeM P g 0 e fz (Lib.strCells s) 0 cur w hg hfz (by rw [hsl]; omega) (Lib.strCells_oneCell s)
  simp only [Nat.add_zero, Nat.zero_add, List.take_zero, List.nil_append, hsl] at hst
  have hmin : Nat.min s.size r.size = s.size := Nat.min_eq_left hs
  have hrun : (Builtin.copy_ #[t, u] ty #[.slice (some ⟨g, 0, none⟩) r.size cap, .string s]).run P w = .ok (goInt s.size) (w.setRow g (Lib.strCells s ++ cur.toList.drop s.size).toArray) := by
    have htake : List.take s.size (List.map (fun b : UInt8 => Value.int IntKind.u8 (b.toNat : Int)) s.data.toList) = Lib.strCells s := by
      rw [List.take_of_length_le (by rw [List.length_map, ← size_list]; exact Nat.le_refl _)]
      rfl
    simp [Builtin.copy_, run_underlying ht, Builtin.lenOf, Builtin.firstCells, sizeOf, typeInfo, hi, h1, hmin]
    rw [htake, hst]
    simp [Result.andThen]
  have ez : (overT r s).size = r.size := by
    unfold overT
    rw [ByteArray.size_append]
    simp
    omega
  refine ⟨_, hrun, .inr ⟨g, cap, _, fz, by rw [ez], hbg, setRow_heap w g cur _ e _ hg, ?_, by rw [ez]; exact hnc, hcm, ?_, ?_⟩, ⟨rfl, rfl, rfl, by simp, fun k _ hk => setRow_other w g k _ (fun e => hk (by simp [Value.ownBlock, e]))⟩⟩
  · refine hfz.imp_right fun h => ?_
    simp only [List.size_toArray, List.length_append, List.length_drop, Array.length_toList, hsl]
    omega
  · simp only [List.size_toArray, List.length_append, List.length_drop, Array.length_toList, hsl]
    omega
  · rw [ez]
    show (Lib.strCells s ++ cur.toList.drop s.size).take r.size = _
    unfold overT
    rw [strCells_app, List.take_append, hsl, List.take_of_length_le (by omega)]
    congr 1
    have e2 : Lib.strCells (r.extract s.size r.size) = (Lib.strCells r).drop s.size := by
      unfold Lib.strCells
      rw [ext_list, ← List.map_drop, List.take_of_length_le]
      rw [List.length_drop, ← size_list]
      exact Nat.le_refl _
    rw [e2, ← htk, List.drop_take]
end Go.Proofs.Ytciaebhkemdilaa
