/- A row of bytes that a call owns, marked behind its end or not (what a text's conversion lays is marked): it is appended to, and turned into a text. -/
import Derived.Test.YtciaebhkemdilabKitC
import Derived.Laws.IdiomStrings
import Derived.Laws.BytesArg
import Derived.Lib.AppendStr
import Derived.Deep.RegionLaw
namespace Go.Proofs.Ytciaebhkemdilab
open Go.RowKit
set_option linter.unusedVariables false
set_option linter.unusedSimpArgs false
def RowM (w : World) (B : Nat) (e : TypeId) (v : Value) (s : ByteArray) : Prop :=
  (v = .slice none 0 0 ∧ s.size = 0) ∨
  ∃ g cap cur fz, v = .slice (some ⟨g, 0, none⟩) s.size cap ∧ B ≤ g ∧ w.heap[g]? = some (.cells cur e fz) ∧ (fz.2 = 0 ∨ cur.size ≤ fz.1) ∧ s.size ≤ cap ∧ cap ≤ maxLen ∧ cur.size = cap ∧ cur.toList.take s.size = Lib.strCells s
theorem RowM.slice {w : World} {B : Nat} {e : TypeId} {v : Value} {s : ByteArray} (h : RowM w B e v s) : ∃ a cap, v = .slice a s.size cap := by
  rcases h with ⟨rfl, h0⟩ | ⟨g, cap, cur, fz, rfl, _⟩
  · rw [h0]; exact ⟨_, _, rfl⟩
  · exact ⟨_, _, rfl⟩
theorem RowM.lt {w : World} {B : Nat} {e : TypeId} {v : Value} {s : ByteArray} (h : RowM w B e v s) {b : Nat} (hb : v.ownBlock = some b) : B ≤ b ∧ b < w.heap.size := by
  rcases h with ⟨rfl, _⟩ | ⟨g, cap, cur, fz, rfl, h1, h2, _⟩
  · simp [Value.ownBlock] at hb
  · have : g = b := by simpa [Value.ownBlock] using hb
    subst this
    exact ⟨h1, (Array.getElem?_eq_some_iff.1 h2).1⟩
theorem RowM.keep {w w' : World} {B : Nat} {e : TypeId} {v : Value} {s : ByteArray} (h : RowM w B e v s) (hk : ∀ b, v.ownBlock = some b → w'.heap[b]? = w.heap[b]?) : RowM w' B e v s := by
  rcases h with h | ⟨g, cap, cur, fz, rfl, h1, h2, h3⟩
  · exact .inl h
  · exact .inr ⟨g, cap, cur, fz, rfl, h1, (hk g (by simp [Value.ownBlock])).trans h2, h3⟩
theorem RowM.bw {w w' : World} {B : Nat} {e : TypeId} {v : Value} {s : ByteArray} (h : RowM w B e v s) (hb : Bw w w') : RowM w' B e v s := h.keep fun b hb' => hb.block b (h.lt hb').2
theorem RowM.grown {w w1 w2 : World} {B : Nat} {e : TypeId} {v : Value} {s : ByteArray} (h : RowM w1 B e v s) (hg : w1.grownBy w2 v.ownBlock) (hb : Below B w w1) (hB : B ≤ w1.heap.size) : Below B w w2 :=
  hb.trans ⟨hg.os, hg.tape, hg.output, hg.size, fun k hk => hg.block k (by omega) (fun e => by have := (h.lt e.symm).1; omega)⟩
theorem RowM.cells {w : World} {B : Nat} {e : TypeId} {s : ByteArray} {g cap : Nat} (h : RowM w B e (.slice (some ⟨g, 0, none⟩) s.size cap) s) : ∀ j u, (Lib.strCells s)[j]? = some u → w.cell? ((⟨g, 0, none⟩ : Addr).add j) = some u := fun j u hu => by
  rcases h with ⟨h, _⟩ | ⟨g', cap', cur, fz, h, h1, h2, h3, h4, h5, h6, h7⟩
  · cases h
  · injection h with e1 e2 e3
    injection e1 with e1
    injection e1 with e1
    subst e1
    have hadd : (⟨g, 0, none⟩ : Addr).add j = ⟨g, j, none⟩ := by unfold Addr.add; split <;> simp_all
    rw [hadd, cell_of_row w g j cur e fz h2]
    rw [← h7, List.getElem?_take] at hu
    split at hu
    · simpa using hu
    · cases hu
theorem run_storeM (P : Program) (g o : Nat) (t : TypeId) (fz : Nat × Nat) : ∀ (vs : List Value) (i : Nat) (cur : Array Value) (w : World), w.heap[g]? = some (.cells cur t fz) → (fz.2 = 0 ∨ cur.size ≤ fz.1) → o + i + vs.length ≤ cur.size → (∀ v ∈ vs, v.oneCell' = true) →
    (storeCells ⟨g, o, none⟩ vs i).run P w = .ok () (w.setRow g (cur.toList.take (o + i) ++ vs ++ cur.toList.drop (o + i + vs.length)).toArray)
  | [], i, cur, w, hg, _, _, _ => by
    simp only [storeCells, List.append_nil, List.length_nil, Nat.add_zero, List.take_append_drop, Array.toArray_toList]
    rw [setRow_self w g cur t fz hg]
    rfl
  | v :: rest, i, cur, w, hg, hfz, hl, h1 => by
    have hi : o + i < cur.size := by simp at hl; omega
    have hadd : (⟨g, o, none⟩ : Addr).add i = ⟨g, o + i, none⟩ := by unfold Addr.add; split <;> simp_all
    have hcell : w.cell? ⟨g, o + i, none⟩ = some cur[o + i] := by simp [World.cell?, hg, hi]
    have hfro : w.frozen? ⟨g, o + i, none⟩ = false := by
      obtain ⟨lo, hi'⟩ := fz
      simp only [World.frozen?, hg, Bool.and_eq_false_iff, decide_eq_false_iff_not]
      simp only at hfz
      omega
    have hst : (store ((⟨g, o, none⟩ : Addr).add i) v).run P w = .ok () (w.setRow g (cur.setIfInBounds (o + i) v)) := by
      rw [hadd, run_store P w _ v _ (h1 v (by simp)), hcell]
      simp [hfro, setCell_eq_setRow w g (o + i) cur t fz v hg]
    have ih := run_storeM P g o t fz rest (i + 1) (cur.setIfInBounds (o + i) v) (w.setRow g (cur.setIfInBounds (o + i) v)) (setRow_heap w g cur _ t _ hg) (by simpa using hfz) (by simp at hl ⊢; omega) (fun x hx => h1 x (by simp [hx]))
    simp only [storeCells, Sem.run_bind, hst, Result.andThen_ok, ih, setRow_setRow]
    congr 3
    have e := list_seg_step cur.toList (o + i) v rest (by simp at hl ⊢; omega)
    simpa [Array.toList_setIfInBounds, Nat.add_assoc] using e
section
variable {P : Program} (w : World)
theorem strCells_app (s t : ByteArray) : Lib.strCells (s ++ t) = Lib.strCells s ++ Lib.strCells t := by simp [Lib.strCells]
theorem strCells_one (c : UInt8) : Lib.strCells ⟨#[c]⟩ = [.int .u8 c.toNat] := by simp [Lib.strCells]
theorem app_room (t u ty e : TypeId) (i : TypeInfo) (ht : P.underlying t = some (.slice e)) (hu : P.underlying u = some .string) (hi : P.info? e = some i) (hs1 : i.size = 1)
    (g sLen sCap : Nat) (cur : Array Value) (fz : Nat × Nat) (hg : w.heap[g]? = some (.cells cur e fz)) (hfz : fz.2 = 0 ∨ cur.size ≤ fz.1) (s : ByteArray)
    (hroom : sLen + s.size ≤ sCap) (hfit : sLen + s.size ≤ cur.size) :
    (Builtin.append_ #[t, u] ty #[.slice (some ⟨g, 0, none⟩) sLen sCap, .string s]).run P w =
      .ok (.slice (some ⟨g, 0, none⟩) (sLen + s.size) sCap) (w.setRow g (cur.toList.take sLen ++ Lib.strCells s ++ cur.toList.drop (sLen + s.size)).toArray) := by
  have hf := Lib.run_firstCells_string (P := P) w 1 s
  have hst := run_storeM P g sLen e fz (Lib.strCells s) 0 cur w hg hfz (by simpa [Lib.strCells_length] using hfit) (Lib.strCells_oneCell s)
  simp only [Nat.add_zero, Lib.strCells_length] at hst
  simp [Builtin.append_, run_underlying ht, run_underlying hu, sizeOf, typeInfo, hi, hs1, Builtin.lenOf, hroom, hf, Addr.add_lit, hst]
theorem app_room_one (t ty e : TypeId) (i : TypeInfo) (ht : P.underlying t = some (.slice e)) (hi : P.info? e = some i) (hs1 : i.size = 1)
    (g sLen sCap : Nat) (cur : Array Value) (fz : Nat × Nat) (hg : w.heap[g]? = some (.cells cur e fz)) (hfz : fz.2 = 0 ∨ cur.size ≤ fz.1) (a : Addr) (c : Nat) (x : UInt8)
    (hnews : w.cell? (a.add 0) = some (.int .u8 x.toNat)) (hroom : sLen + 1 ≤ sCap) (hfit : sLen + 1 ≤ cur.size) :
    (Builtin.append_ #[t, t] ty #[.slice (some ⟨g, 0, none⟩) sLen sCap, .slice (some a) 1 c]).run P w =
      .ok (.slice (some ⟨g, 0, none⟩) (sLen + 1) sCap) (w.setRow g (cur.toList.take sLen ++ [Value.int .u8 x.toNat] ++ cur.toList.drop (sLen + 1)).toArray) := by
  have hf := run_firstCells_some (P := P) w i.size 1 a 1 c [.int .u8 x.toNat] (by rw [hs1]; rfl) (fun j u hj => by
    match j, hj with
    | 0, hj => simp at hj; subst hj; exact hnews)
  have hst := run_storeM P g (sLen * i.size) e fz [.int .u8 x.toNat] 0 cur w hg hfz (by rw [hs1]; simpa using hfit) (fun v hv => by simp at hv; subst hv; rfl)
  simp only [Nat.add_zero, hs1, Nat.mul_one, List.length_cons, List.length_nil, Nat.zero_add] at hst
  rw [hs1] at hf
  simp [Builtin.append_, run_underlying ht, sizeOf, typeInfo, hi, hs1, Builtin.lenOf, hroom, hf, Addr.add_lit, hst]
/-- A text is appended. -/
theorem app_strM (B : Nat) (t u ty e : TypeId) (i : TypeInfo) (ht : P.underlying t = some (.slice e)) (hu : P.underlying u = some .string) (hi : P.info? e = some i) (hz : i.zero = some (.int .u8 0))
    (h1 : i.size = 1) (h2 : i.bytes = 1) (v : Value) (x : ByteArray) (hown : RowM w B e v x) (s : ByteArray) (hb : x.size + s.size ≤ 140737488355328) (hB : B ≤ w.heap.size) :
    ∃ v' w', (Builtin.append_ #[t, u] ty #[v, .string s]).run P w = .ok v' w' ∧ RowM w' B e v' (x ++ s) ∧ w.grownBy w' v.ownBlock := by
  have hm : x.size + s.size ≤ maxLen := by unfold maxLen; omega
  rcases hown with ⟨rfl, h0⟩ | ⟨g, cap, cur, fz, rfl, hbg, hg, hfz, hnc, hcm, hcs, htk⟩
  · have hx : Lib.strCells x = [] := List.eq_nil_of_length_eq_zero (by rw [Lib.strCells_length, h0])
    obtain ⟨v', w', hr, hw, hgr, _⟩ := Lib.run_append_own_string (P := P) w B t u ty e i ht hu hi hz h1 h2 (.slice none 0 0) 0 [] (World.ownsRow_nil _ _ _ _) s (by omega) (by omega) hB
    refine ⟨v', w', hr, ?_, hgr⟩
    have ez : (x ++ s).size = s.size := by rw [ByteArray.size_append, h0, Nat.zero_add]
    have ec : Lib.strCells (x ++ s) = Lib.strCells s := by rw [strCells_app, hx, List.nil_append]
    simp only [Nat.zero_add, List.nil_append] at hw
    rcases hw.2 with ⟨rfl, h⟩ | ⟨g, cap, cur, rfl, k1, k2, k3, k4, k5, k6⟩
    · exact .inl ⟨rfl, by rw [ez]; exact h⟩
    · exact .inr ⟨g, cap, cur, (0, 0), by rw [ez], k1, k2, .inl rfl, by rw [ez]; exact k3, k4, by simpa using k5, by rw [ez, ec]; simpa using k6⟩
  · by_cases hroom : x.size + s.size ≤ cap
    · have hr := app_room (P := P) w t u ty e i ht hu hi h1 g x.size cap cur fz hg hfz s hroom (by omega)
      refine ⟨_, _, hr, .inr ⟨g, cap, _, fz, by rw [ByteArray.size_append], hbg, setRow_heap w g cur _ e _ hg, ?_, by rw [ByteArray.size_append]; exact hroom, hcm, ?_, ?_⟩, ⟨rfl, rfl, rfl, by simp, fun k _ hk => setRow_other w g k _ (fun e => hk (by simp [Value.ownBlock, e]))⟩⟩
      · refine hfz.imp_right fun h => ?_
        simp only [List.size_toArray, List.length_append, List.length_take, List.length_drop, Array.length_toList, Lib.strCells_length]
        omega
      · simp only [List.size_toArray, List.length_append, List.length_take, List.length_drop, Array.length_toList, Lib.strCells_length]
        omega
      · rw [htk, ← strCells_app]
        have : (x ++ s).size = (Lib.strCells (x ++ s)).length := by rw [Lib.strCells_length]
        rw [this]
        exact List.take_left
    · have hxl : (Lib.strCells x).length = x.size := Lib.strCells_length x
      have hcell := RowM.cells (w := w) (B := B) (e := e) (s := x) (g := g) (cap := cap) (.inr ⟨g, cap, cur, fz, rfl, hbg, hg, hfz, hnc, hcm, hcs, htk⟩)
      have hr := Lib.run_append_grow_string (P := P) w t u ty e i (.int .u8 0) ht hu hi hz ⟨g, 0, none⟩ x.size cap (Lib.strCells x) (by rw [h1]; simpa using hxl) hcell s (by omega) (by omega) (by rw [h2]; exact growslice_fits (by omega) (by omega))
      have hge := grownCap_ge w (x.size + s.size) cap e
      have hcm2 : grownCap w (x.size + s.size) cap e ≤ maxLen := grownCap_le_maxLen w (x.size + s.size) cap e hm
      refine ⟨_, _, hr, .inr ⟨w.heap.size, _, _, (0, 0), by rw [ByteArray.size_append], hB, heap_alloc_new w.drew _, .inl rfl, by rw [ByteArray.size_append]; exact hge, hcm2, ?_, ?_⟩, ⟨rfl, rfl, rfl, by simp, fun k hk _ => Below.heap_alloc w.drew _ k hk⟩⟩
      · have hz1 : (Value.int IntKind.u8 0).cells.size = 1 := rfl
        simp only [Array.size_append, List.size_toArray, size_zeroCells, hz1, hxl, Lib.strCells_length]
        omega
      · simp only [Array.toList_append, List.append_assoc]
        rw [← List.append_assoc, ← strCells_app]
        have : (x ++ s).size = (Lib.strCells (x ++ s)).length := by rw [Lib.strCells_length]
        rw [this]
        exact List.take_left
/-- One byte is appended. -/
theorem app_oneM (B : Nat) (t ty e : TypeId) (i : TypeInfo) (ht : P.underlying t = some (.slice e)) (hi : P.info? e = some i) (hz : i.zero = some (.int .u8 0))
    (h1 : i.size = 1) (h2 : i.bytes = 1) (v : Value) (x : ByteArray) (hown : RowM w B e v x) (a : Addr) (c : Nat) (b : UInt8) (hnew : w.cell? (a.add 0) = some (.int .u8 b.toNat)) (hb : x.size + 1 ≤ 140737488355328) (hB : B ≤ w.heap.size) :
    ∃ v' w', (Builtin.append_ #[t, t] ty #[v, .slice (some a) 1 c]).run P w = .ok v' w' ∧ RowM w' B e v' (x ++ ⟨#[b]⟩) ∧ w.grownBy w' v.ownBlock := by
  have hm : x.size + 1 ≤ maxLen := by unfold maxLen; omega
  have hnews : ∀ j u, ([.int .u8 b.toNat] : List Value)[j]? = some u → w.cell? (a.add j) = some u := fun j u hj => by
    match j, hj with
    | 0, hj => simp at hj; subst hj; exact hnew
  have hs1 : (⟨#[b]⟩ : ByteArray).size = 1 := rfl
  rcases hown with ⟨rfl, h0⟩ | ⟨g, cap, cur, fz, rfl, hbg, hg, hfz, hnc, hcm, hcs, htk⟩
  · have hx : Lib.strCells x = [] := List.eq_nil_of_length_eq_zero (by rw [Lib.strCells_length, h0])
    obtain ⟨v', w', hr, hw, hgr, _⟩ := run_append_own (P := P) w B t ty e i (.int .u8 0) 1 1 ht hi hz h1 h2 rfl (by decide) (.slice none 0 0) 0 [] (World.ownsRow_nil _ _ _ _) a 1 c [.int .u8 b.toNat] rfl hnews (fun u hu => by simp at hu; subst hu; rfl) (by omega) (by omega) hB
    refine ⟨v', w', hr, ?_, hgr⟩
    have ez : (x ++ ⟨#[b]⟩ : ByteArray).size = 1 := by rw [ByteArray.size_append, h0, hs1]
    have ec : Lib.strCells (x ++ ⟨#[b]⟩) = [.int .u8 b.toNat] := by rw [strCells_app, hx, List.nil_append, strCells_one]
    simp only [Nat.zero_add, List.nil_append] at hw
    rcases hw.2 with ⟨rfl, h⟩ | ⟨g, cap, cur, rfl, k1, k2, k3, k4, k5, k6⟩
    · cases h
    · exact .inr ⟨g, cap, cur, (0, 0), by rw [ez], k1, k2, .inl rfl, by rw [ez]; exact k3, k4, by simpa using k5, by rw [ez, ec]; simpa using k6⟩
  · by_cases hroom : x.size + 1 ≤ cap
    · have hr := app_room_one (P := P) w t ty e i ht hi h1 g x.size cap cur fz hg hfz a c b hnew hroom (by omega)
      have hl1 : ([.int .u8 b.toNat] : List Value).length = 1 := rfl
      refine ⟨_, _, hr, .inr ⟨g, cap, _, fz, by rw [ByteArray.size_append, hs1], hbg, setRow_heap w g cur _ e _ hg, ?_, by rw [ByteArray.size_append, hs1]; exact hroom, hcm, ?_, ?_⟩, ⟨rfl, rfl, rfl, by simp, fun k _ hk => setRow_other w g k _ (fun e => hk (by simp [Value.ownBlock, e]))⟩⟩
      · refine hfz.imp_right fun h => ?_
        simp only [List.size_toArray, List.length_append, List.length_take, List.length_drop, Array.length_toList, hl1]
        omega
      · simp only [List.size_toArray, List.length_append, List.length_take, List.length_drop, Array.length_toList, hl1]
        omega
      · rw [htk, ← strCells_one b, ← strCells_app]
        have : (x ++ ⟨#[b]⟩ : ByteArray).size = (Lib.strCells (x ++ ⟨#[b]⟩)).length := by rw [Lib.strCells_length]
        rw [this]
        exact List.take_left
    · have hxl : (Lib.strCells x).length = x.size := Lib.strCells_length x
      have hcell := RowM.cells (w := w) (B := B) (e := e) (s := x) (g := g) (cap := cap) (.inr ⟨g, cap, cur, fz, rfl, hbg, hg, hfz, hnc, hcm, hcs, htk⟩)
      have hr := run_append_grow (P := P) w t ty e i (.int .u8 0) ht hi hz ⟨g, 0, none⟩ x.size cap (Lib.strCells x) (by rw [h1]; simpa using hxl) hcell a 1 c [.int .u8 b.toNat] (by rw [h1]; rfl) hnews (by omega) (by omega) (by rw [h2]; exact growslice_fits (by omega) (by omega))
      have hge := grownCap_ge w (x.size + 1) cap e
      have hcm2 : grownCap w (x.size + 1) cap e ≤ maxLen := grownCap_le_maxLen w (x.size + 1) cap e hm
      have hl1 : ([.int .u8 b.toNat] : List Value).length = 1 := rfl
      refine ⟨_, _, hr, .inr ⟨w.heap.size, _, _, (0, 0), by rw [ByteArray.size_append, hs1], hB, heap_alloc_new w.drew _, .inl rfl, by rw [ByteArray.size_append, hs1]; exact hge, hcm2, ?_, ?_⟩, ⟨rfl, rfl, rfl, by simp, fun k hk _ => Below.heap_alloc w.drew _ k hk⟩⟩
      · have hz1 : (Value.int IntKind.u8 0).cells.size = 1 := rfl
        simp only [Array.size_append, List.size_toArray, size_zeroCells, hz1, hxl, hl1]
        omega
      · simp only [Array.toList_append, List.append_assoc]
        rw [← List.append_assoc, ← strCells_one b, ← strCells_app]
        have : (x ++ ⟨#[b]⟩ : ByteArray).size = (Lib.strCells (x ++ ⟨#[b]⟩)).length := by rw [Lib.strCells_length]
        rw [this]
        exact List.take_left
/-- What a text's conversion lays. -/
theorem RowM.made (B : Nat) (e : TypeId) (s : ByteArray) (hs : s.size ≤ maxLen) (hB : B ≤ w.heap.size) :
    RowM (w.drew.alloc (.cells (bytesRow s (grownCap w s.size 0 e)) e ((bytesRow s (grownCap w s.size 0 e)).size, (bytesRow s (grownCap w s.size 0 e)).size + 1))) B e (.slice (some ⟨w.heap.size, 0, none⟩) s.size (grownCap w s.size 0 e)) s := by
  have hge := grownCap_ge w s.size 0 e
  have hsz : s.data.size = s.size := rfl
  refine .inr ⟨w.heap.size, _, _, _, rfl, hB, heap_alloc_new w.drew _, .inr (Nat.le_refl _), hge, grownCap_le_maxLen w s.size 0 e hs, ?_, ?_⟩
  · simp [bytesRow]; omega
  · have : s.size = (Lib.strCells s).length := (Lib.strCells_length s).symm
    unfold bytesRow
    rw [Array.toList_append]
    have e2 : (s.data.map fun b => Value.int .u8 b.toNat).toList = Lib.strCells s := by simp [Lib.strCells]
    rw [e2, this]
    exact List.take_left
end
set_option maxRecDepth 100000 in
/-- A row turned into a text. -/
theorem convM {w : World} {B : Nat} {v : Value} {s : ByteArray} (h : RowM w B 5 v s) :
    (convert 38 9 v).run Try.prog w = .ok (.string s) w := by
  have hl : s.data.toList.length = s.size := by simp
  rcases h with ⟨rfl, h0⟩ | ⟨g, cap, cur, fz, rfl, h1, h2, h3, h4, h5, h6, h7⟩
  · have e : s = ⟨#[]⟩ := by
      have h2 : s.data = #[] := Array.eq_empty_of_size_eq_zero h0
      show (⟨s.data⟩ : ByteArray) = ⟨#[]⟩
      rw [h2]
    subst e
    exact run_convert_bytes_nil (P := Try.prog) (w := w) 38 5 Try.underlying38 Try.underlying5 0 0 9 Try.underlying9
  · have hc := RowM.cells (w := w) (B := B) (e := 5) (s := s) (g := g) (cap := cap) (.inr ⟨g, cap, cur, fz, rfl, h1, h2, h3, h4, h5, h6, h7⟩)
    have h := run_convert_bytes_back (P := Try.prog) w 38 9 5 ⟨g, 0, none⟩ cap s.data.toList Try.underlying38 Try.underlying5 Try.underlying9 (fun j hj => hc j _ (by simp [Lib.strCells]; exact ⟨_, Array.getElem?_eq_getElem (by simpa using hj), rfl⟩))
    rw [hl] at h
    exact h
theorem step_app_strM {P : Program} {w : World} {ops : Array Oper} {o : Oper} {a : Act} {K : Act → World → Prop} {Q : Exit → Act → World → Prop} {E : Prop} (hgd : o.guard = none) (x y : Operand) (t u : TypeId)
    (ho : o.op = .call { callee := .builtin .append, args := #[x, y], argTypes := #[t, u] }) (B : Nat) {e : TypeId} {i : TypeInfo} (ht : P.underlying t = some (.slice e)) (hu : P.underlying u = some .string) (hi : P.info? e = some i) (hz : i.zero = some (.int .u8 0))
    (h1 : i.size = 1) (h2 : i.bytes = 1) (v : Value) (r : ByteArray) (hx : a.eval x = v) (hown : RowM w B e v r) (s : ByteArray) (hy : a.eval y = .string s) (hb : r.size + s.size ≤ 140737488355328) (hB : B ≤ w.heap.size)
    (h : ∀ v' w', RowM w' B e v' (r ++ s) → w.grownBy w' v.ownBlock → K (a.put o.dst v') w') :
    if Region.wanted o (yielded ops a.tmps) = true then Oper.wp P o a w K Q else E := by
  have hw : Region.wanted o (yielded ops a.tmps) = true := by simp [Region.wanted, hgd]
  rw [if_pos hw]
  obtain ⟨v', w', hr, k1, k2⟩ := app_strM (P := P) w B t u o.type e i ht hu hi hz h1 h2 v r hown s hb hB
  unfold Oper.wp execOp
  simp only [ho, resolve, invoke, builtin, Sem.run_bind, Sem.run_pure, Result.andThen_ok, List.map_toArray, List.map_cons, List.map_nil, hx, hy, hr]
  exact h v' w' k1 k2
theorem wpList_app_strM {P : Program} {w : World} {ops : Array Oper} {rest : List Oper} {o : Oper} {a : Act} {Q : Exit → Act → World → Prop} (hgd : o.guard = none) (x y : Operand) (t u : TypeId)
    (ho : o.op = .call { callee := .builtin .append, args := #[x, y], argTypes := #[t, u] }) (B : Nat) {e : TypeId} {i : TypeInfo} (ht : P.underlying t = some (.slice e)) (hu : P.underlying u = some .string) (hi : P.info? e = some i) (hz : i.zero = some (.int .u8 0))
    (h1 : i.size = 1) (h2 : i.bytes = 1) (v : Value) (r : ByteArray) (hx : a.eval x = v) (hown : RowM w B e v r) (s : ByteArray) (hy : a.eval y = .string s) (hb : r.size + s.size ≤ 140737488355328) (hB : B ≤ w.heap.size)
    (h : ∀ v' w', RowM w' B e v' (r ++ s) → w.grownBy w' v.ownBlock → wpList P ops Q rest (a.put o.dst v') w') : wpList P ops Q (o :: rest) a w := by
  refine wpList_plain hgd fun K hK => ?_
  obtain ⟨v', w', hr, k1, k2⟩ := app_strM (P := P) w B t u o.type e i ht hu hi hz h1 h2 v r hown s hb hB
  unfold Oper.wp execOp
  simp only [ho, resolve, invoke, builtin, Sem.run_bind, Sem.run_pure, Result.andThen_ok, List.map_toArray, List.map_cons, List.map_nil, hx, hy, hr]
  exact hK _ _ (h v' w' k1 k2)
theorem wpList_app_oneM {P : Program} {w : World} {ops : Array Oper} {rest : List Oper} {o : Oper} {a : Act} {Q : Exit → Act → World → Prop} (hgd : o.guard = none) (x y : Operand) (t : TypeId)
    (ho : o.op = .call { callee := .builtin .append, args := #[x, y], argTypes := #[t, t] }) (B : Nat) {e : TypeId} {i : TypeInfo} (ht : P.underlying t = some (.slice e)) (hi : P.info? e = some i) (hz : i.zero = some (.int .u8 0))
    (h1 : i.size = 1) (h2 : i.bytes = 1) (v : Value) (r : ByteArray) (hx : a.eval x = v) (hown : RowM w B e v r) (b : UInt8) (ad : Addr) (c : Nat) (hy : a.eval y = .slice (some ad) 1 c) (hnew : w.cell? (ad.add 0) = some (.int .u8 b.toNat)) (hb : r.size + 1 ≤ 140737488355328) (hB : B ≤ w.heap.size)
    (h : ∀ v' w', RowM w' B e v' (r ++ ⟨#[b]⟩) → w.grownBy w' v.ownBlock → wpList P ops Q rest (a.put o.dst v') w') : wpList P ops Q (o :: rest) a w := by
  refine wpList_plain hgd fun K hK => ?_
  obtain ⟨v', w', hr, k1, k2⟩ := app_oneM (P := P) w B t o.type e i ht hi hz h1 h2 v r hown ad c b hnew hb hB
  unfold Oper.wp execOp
  simp only [ho, resolve, invoke, builtin, Sem.run_bind, Sem.run_pure, Result.andThen_ok, List.map_toArray, List.map_cons, List.map_nil, hx, hy, hr]
  exact hK _ _ (h v' w' k1 k2)
end Go.Proofs.Ytciaebhkemdilab
