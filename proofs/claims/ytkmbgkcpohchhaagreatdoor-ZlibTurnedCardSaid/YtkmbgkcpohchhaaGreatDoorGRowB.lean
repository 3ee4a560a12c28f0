import Derived.Test.YtkmbgkcpohchhaaGreatDoorGDefWH
import Derived.Test.YtkmbgkcpohchhaaGreatDoorGBase
import Derived.Laws.IdiomStrings
import Derived.Laws.BytesArg
import Derived.OwnWalk
import Derived.Deep.Slices
import Derived.Test.YtkmbgkcpohchhaaGreatDoorGTokKit
import Derived.Maps.Own
import Derived.Maps.Views
import Derived.DeepKeys4
import Derived.StillTailTactics
import Derived.IntWalk
import Derived.Test.YtkmbgkcpohchhaaGreatDoorGInfP
import Derived.Test.YtkmbgkcpohchhaaGreatDoorGHufG
import Derived.BigRegion
import Derived.Lib.RabinKarpLaws
import Derived.Laws.DeepNot64
namespace Go.Proofs.YtkmbgkcpohchhaaGreatDoor
open Go.RowKit
set_option linter.unusedVariables false
theorem byteInfo : (Tryz.prog.info? 5).map (fun i => (i.zero, i.size, i.bytes)) = some (some (.int .u8 0), 1, 1) := by kernel_rfl
theorem own_byte {w : World} {B g n cap : Nat} {l : List UInt8} (h : w.ownsRow B 5 1 (.slice (some ⟨g, 0, none⟩) n cap) n (bcs l)) (i : Nat) (hi : i < l.length) : w.cell? ⟨g, i, none⟩ = some (.int .u8 ((l[i]'hi).toNat : Nat)) := by
  have := h.cells (g := g) rfl i _ (bcs_get l i hi)
  rwa [addr_add] at this
set_option maxRecDepth 100000 in
theorem conv_bytes {w : World} {B n : Nat} {v : Value} {l : List UInt8} (hn : l.length = n) (h : w.ownsRow B 5 1 v n (bcs l)) :
    (convert 41 9 v).run Tryz.prog w = .ok (.string ⟨l.toArray⟩) w := by
  obtain ⟨ao, cap, rfl⟩ := own_slice h
  subst hn
  by_cases h0 : l.length = 0
  · obtain rfl : l = [] := List.length_eq_zero_iff.1 h0
    rcases h.2 with ⟨h1, h2⟩ | ⟨g, cap', cur, h1, _⟩
    · injection h1 with e1 e2 e3
      subst e1
      exact run_convert_bytes_nil (P := Tryz.prog) (w := w) 41 5 Tryz.underlying41 Tryz.underlying5 0 cap 9 Tryz.underlying9
    · injection h1 with e1 e2 e3
      subst e1
      exact run_convert_bytes_back (P := Tryz.prog) w 41 9 5 ⟨g, 0, none⟩ cap [] Tryz.underlying41 Tryz.underlying5 Tryz.underlying9 (fun j hj => by simp at hj)
  · obtain ⟨g, cap', e⟩ := own_some h (by omega)
    injection e with e1 e2 e3
    subst e1
    exact run_convert_bytes_back (P := Tryz.prog) w 41 9 5 ⟨g, 0, none⟩ cap l Tryz.underlying41 Tryz.underlying5 Tryz.underlying9 (fun j hj => by rw [addr_add]; exact own_byte h j hj)
end Go.Proofs.YtkmbgkcpohchhaaGreatDoor
namespace Go.Proofs.YtkmbgkcpohchhaaGreatDoor
open Go.RowKit
set_option linter.unusedVariables false
theorem tokInfo : (Tryz.prog.info? 29).map (fun i => (i.zero, i.size, i.bytes)) = some (some (.agg #[.int .u8 0, .int .i64 0, .int .i64 0]), 3, 24) := by kernel_rfl
end Go.Proofs.YtkmbgkcpohchhaaGreatDoor
namespace Go.Proofs.YtkmbgkcpohchhaaGreatDoor
open Go.RowKit Go.Maps
set_option linter.unusedVariables false
set_option maxRecDepth 100000
theorem laidOutM : laidOutB Tryz.prog = true := by kernel_rfl
theorem keyRow : (138 : TypeId) < Tryz.prog.types.size := of_decide_eq_true (by kernel_rfl)
theorem keyCells : Tryz.prog.cellsOf 138 = 3 := by kernel_rfl
theorem byteCellsOf : Tryz.prog.cellsOf 5 = 1 := by kernel_rfl
theorem keyWide : (match Tryz.prog.underlying 138 with | some (.array _ _) | some (.struct _) => true | _ => false) = true := by rw [Tryz.underlying138]
theorem keyLaw : WideMaps.KeyLaw Tryz.prog 138 := deep_law_laid laidOutM (m := 2) (by omega) keyRow (by kernel_rfl) keyWide
theorem keyed : Keyed Tryz.prog 138 := Keyed.of_law keyLaw
def kl (x y z : UInt8) : Lit := .string [x, y, z]
def keyV (x y z : UInt8) : Value := .agg #[.int .u8 (x.toNat : Nat), .int .u8 (y.toNat : Nat), .int .u8 (z.toNat : Nat)]
theorem typesSize : ∃ m, Tryz.prog.types.size = m + 1 := ⟨_, (Nat.succ_pred_eq_of_pos (Nat.lt_of_le_of_lt (Nat.zero_le _) (show (138 : Nat) < _ from keyRow))).symm⟩
theorem byte_wf (x : UInt8) : (Lit.int .u8 (x.toNat : Nat)).wf = true := by
  have := x.toNat_lt
  simp [Lit.wf, IntKind.min, IntKind.max, IntKind.bits, IntKind.signed]; omega
theorem byte_bytes (x : UInt8) : Lit.keyBytes (.int .u8 (x.toNat : Nat)) = [x] := by
  have h := x.toNat_lt
  have e : (((x.toNat : Nat) : Int) % 2 ^ 8).toNat = x.toNat := by omega
  show bytesBE (8 / 8) (((x.toNat : Nat) : Int) % 2 ^ 8).toNat = [x]
  rw [e]
  show [UInt8.ofNat (x.toNat % 256)] = [x]
  rw [Nat.mod_eq_of_lt h, UInt8.ofNat_toNat]
theorem key_of (x y z : UInt8) : keyOf Tryz.prog 138 (keyV x y z) = some (kl x y z) := by
  obtain ⟨m, hm⟩ := typesSize
  have hk : Tryz.prog.keyType 138 = true := by kernel_rfl
  have hf : (keyV x y z).formed Tryz.prog 138 = true := by simp [keyV, Value.formed, Tryz.underlying138, keyCells]
  unfold keyOf
  rw [Tryz.underlying138]
  simp only [hk, hf, Bool.and_self, if_true, hm]
  simp [keyV, Value.cells, Program.keyLits, Tryz.underlying138, Tryz.underlying5, keyCells, byteCellsOf, byte_wf, List.range, List.range.loop]
  simp [keyBytes, byte_bytes, kl]
theorem kl_ne {x y z a b c : UInt8} (h : ¬ (x = a ∧ y = b ∧ z = c)) : kl a b c ≠ kl x y z := fun e => by
  unfold kl at e
  injection e with e
  simp only [List.cons.injEq, and_true] at e
  exact h ⟨e.1.symm, e.2.1.symm, e.2.2.symm⟩
def plV (ps : List Int) : Value := .agg (ps.map (Value.int .i64)).toArray
def plD (ps : List Int) : DataW Unit := .agg (ps.map fun p => .lit (.int .i64 p))
def unI : Value → Option Int
  | .int .i64 n => some n
  | _ => none
def plR : Value → Option (DataW Unit × List MemPlace)
  | .agg a => if a.size = 8 then (a.toList.mapM unI).map fun ps => (plD ps, []) else none
  | _ => none
theorem mapM_unI (ps : List Int) : (ps.map (Value.int .i64)).mapM unI = some ps := by
  induction ps with
  | nil => rfl
  | cons p ps ih => rw [List.map_cons, List.mapM_cons, ih]; rfl
theorem mapM_unI_inv : ∀ (l : List Value) (ps : List Int), l.mapM unI = some ps → l = ps.map (Value.int .i64)
  | [], ps, h => by
    have : some [] = some ps := h
    injection this with this
    subst this; rfl
  | v :: l, ps, h => by
    rw [List.mapM_cons] at h
    cases hv : unI v with
    | none => rw [hv] at h; cases h
    | some n =>
      rw [hv] at h
      cases hl : l.mapM unI with
      | none => rw [hl] at h; cases h
      | some qs =>
        rw [hl] at h
        have h2 : some (n :: qs) = some ps := h
        injection h2 with h2
        subst h2
        rw [List.map_cons, ← mapM_unI_inv l qs hl]
        congr 1
        unfold unI at hv
        split at hv
        · injection hv with hv; subst hv; rfl
        · cases hv
theorem plR_mk (ps : List Int) (h : ps.length = 8) : plR (plV ps) = some (plD ps, []) := by
  show (if (ps.map (Value.int .i64)).toArray.size = 8 then _ else none) = _
  rw [if_pos (by simpa using h)]
  show ((ps.map (Value.int .i64)).mapM unI).map _ = _
  rw [mapM_unI]
  rfl
theorem plR_inv {v : Value} {d : DataW Unit} {pl : List MemPlace} (h : plR v = some (d, pl)) : ∃ ps : List Int, ps.length = 8 ∧ v = plV ps ∧ d = plD ps := by
  unfold plR at h
  split at h
  · rename_i a
    split at h
    · rename_i h8
      cases hm : a.toList.mapM unI with
      | none => rw [hm] at h; cases h
      | some ps =>
        rw [hm] at h
        have h2 : some (plD ps, ([] : List MemPlace)) = some (d, pl) := h
        injection h2 with h2
        injection h2 with h3 h4
        have h5 := mapM_unI_inv _ _ hm
        refine ⟨ps, ?_, ?_, h3.symm⟩
        · have : a.toList.length = ps.length := by rw [h5, List.length_map]
          have h6 : a.toList.length = a.size := by simp
          omega
        · unfold plV
          rw [← h5]
    · cases h
  · cases h
theorem plD_inj {ps qs : List Int} (h : plD ps = plD qs) : ps = qs := by
  unfold plD at h
  injection h with h
  have key : ∀ (ps qs : List Int), (ps.map fun p => (DataW.lit (.int .i64 p) : DataW Unit)) = qs.map (fun p => DataW.lit (.int .i64 p)) → ps = qs := by
    intro ps
    induction ps with
    | nil => intro qs h; cases qs with
      | nil => rfl
      | cons q qs => cases h
    | cons p ps ih =>
      intro qs h
      cases qs with
      | nil => cases h
      | cons q qs =>
        rw [List.map_cons, List.map_cons] at h
        injection h with h1 h2
        injection h1 with h1
        injection h1 with _ h1
        rw [h1, ih qs h2]
  exact key ps qs h
def zero8 : List Int := [0, 0, 0, 0, 0, 0, 0, 0]
abbrev Pl := UInt8 → UInt8 → UInt8 → List Int
def upd (F : Pl) (x y z : UInt8) (ps : List Int) : Pl := fun a b c => if x = a ∧ y = b ∧ z = c then ps else F a b c
def MapAt (w : World) (b n : Nat) (F : Pl) : Prop :=
  ∃ D : DataW Unit, w.ownsMap Tryz.prog 138 plR b n D ∧ IsMap D ∧ ∀ x y z, D.atKey (kl x y z) (plD zero8) = plD (F x y z) ∧ (F x y z).length = 8
theorem zero_pl (w : World) : (zeroValue 136).run Tryz.prog w = .ok (plV zero8) w := by kernel_rfl
theorem MapAt.keep {w w' : World} {b n : Nat} {F : Pl} (h : MapAt w b n F) (hb : w'.heap[b]? = w.heap[b]?) : MapAt w' b n F := by
  obtain ⟨D, ⟨es, c, h1, h2⟩, h3⟩ := h
  exact ⟨D, ⟨es, c, hb.trans h1, h2⟩, h3⟩
theorem MapAt.lt {w : World} {b n : Nat} {F : Pl} (h : MapAt w b n F) : b < w.heap.size := by
  obtain ⟨D, ⟨es, c, h1, _⟩, _⟩ := h
  exact (Array.getElem?_eq_some_iff.1 h1).1
theorem MapAt.bw {w w' : World} {b n : Nat} {F : Pl} (h : MapAt w b n F) (hb : Bw w w') : MapAt w' b n F := h.keep (hb.block b h.lt)
theorem MapAt.mono {w : World} {b n m : Nat} {F : Pl} (h : MapAt w b n F) (hn : n ≤ m) : MapAt w b m F := by
  obtain ⟨D, h1, h3⟩ := h
  exact ⟨D, h1.mono hn, h3⟩
theorem MapAt.made (w : World) : MapAt (w.alloc (.map #[] 0)) w.heap.size 0 (fun _ _ _ => zero8) :=
  ⟨.map [], World.ownsMap_made w _ _ _, ⟨[], rfl⟩, fun x y z => ⟨rfl, rfl⟩⟩
theorem MapAt.look {w : World} {b n : Nat} {F : Pl} (h : MapAt w b n F) (x y z : UInt8) : (Instr.lookup 84 (.map (some b)) (keyV x y z) false).run Tryz.prog w = .ok (plV (F x y z)) w := by
  obtain ⟨D, h1, _, h3⟩ := h
  obtain ⟨v, ps, hr, hv⟩ := h1.lookup keyed Tryz.underlying84 (zero_pl w) (plR_mk zero8 rfl) (key_of x y z)
  obtain ⟨qs, _, rfl, hd⟩ := plR_inv hv
  rw [(h3 x y z).1] at hd
  rw [hr, plD_inj hd]
theorem MapAt.len {w : World} {b n : Nat} {F : Pl} (h : MapAt w b n F) (x y z : UInt8) : (F x y z).length = 8 := by
  obtain ⟨D, h1, _, h3⟩ := h
  exact (h3 x y z).2
theorem MapAt.put {w : World} {b n : Nat} {F : Pl} (h : MapAt w b n F) (hn : n ≤ 1000000) (x y z : UInt8) (ps : List Int) (hps : ps.length = 8) :
    ∃ w', (Instr.mapUpdate 84 (.map (some b)) (keyV x y z) (plV ps)).run Tryz.prog w = .ok () w' ∧ MapAt w' b (n + 1) (upd F x y z ps) ∧ w.grownBy w' (some b) := by
  obtain ⟨D, h1, hm, h3⟩ := h
  obtain ⟨w', hr, h4, h5⟩ := h1.update keyed Tryz.underlying84 (by unfold maxLen; omega) (key_of x y z) (plR_mk ps hps)
  refine ⟨w', hr, ⟨_, h4, ?_, fun a b c => ?_⟩, h5⟩
  · obtain ⟨es, rfl⟩ := hm
    exact ⟨_, rfl⟩
  · unfold upd
    by_cases e : x = a ∧ y = b ∧ z = c
    · obtain ⟨rfl, rfl, rfl⟩ := e
      rw [if_pos ⟨rfl, rfl, rfl⟩]
      exact ⟨atKey_put_same hm (show WideAt.IsKeyLit (.string _) from trivial) _ _, hps⟩
    · rw [if_neg e, atKey_put_other (kl_ne e)]
      exact h3 a b c
end Go.Proofs.YtkmbgkcpohchhaaGreatDoor
namespace Go.Proofs.YtkmbgkcpohchhaaGreatDoor
open Go.RowKit
set_option linter.unusedVariables false
theorem cell_al1 {w : World} {b o : Nat} {v : Value} (k : w.cell? ⟨b, o, none⟩ = some v) : ∀ o1, (w.alloc o1).cell? ⟨b, o, none⟩ = some v := fun o1 => ((Bw.refl w).alloc o1).cell k
theorem cell_al2 {w : World} {b o : Nat} {v : Value} (k : w.cell? ⟨b, o, none⟩ = some v) : ∀ o1 o2, ((w.alloc o1).alloc o2).cell? ⟨b, o, none⟩ = some v := fun o1 o2 => (((Bw.refl w).alloc o1).alloc o2).cell k
theorem three_at {w : World} {b : Nat} {t : TypeId} {x y z : Value} (h : Has w b t #[x, y, z]) : ∀ j u, [x, y, z][j]? = some u → w.cell? (Addr.add ⟨b, 0, none⟩ j) = some u := fun j u hu => by
  rw [addr_add, h.cell j, ← hu]
  simp
end Go.Proofs.YtkmbgkcpohchhaaGreatDoor
namespace Go.Proofs.YtkmbgkcpohchhaaGreatDoor
open Go.RowKit
set_option linter.unusedVariables false
def put3 (w2 : World) (g : Nat) (x y z : Value) : World := ((w2.setCell ⟨g, 0, none⟩ x).setCell ⟨g, 1, none⟩ y).setCell ⟨g, 2, none⟩ z
theorem has_put3 {w2 : World} {g : Nat} {t : TypeId} {a b c : Value} (h : Has w2 g t #[a, b, c]) (x y z : Value) :
    (put3 w2 g x y z).cell? ⟨g, 0, none⟩ = some x ∧ (put3 w2 g x y z).cell? ⟨g, 1, none⟩ = some y ∧ (put3 w2 g x y z).cell? ⟨g, 2, none⟩ = some z := by
  have h2 := ((h.put 0 x).put 1 y).put 2 z
  exact ⟨(h2.cell 0).trans (by simp), (h2.cell 1).trans (by simp), (h2.cell 2).trans (by simp)⟩
theorem put3_bw {w w2 : World} (h : Bw w w2) (x y z : Value) : Bw w (put3 w2 w.heap.size x y z) :=
  Below.setCell (Below.setCell (Below.setCell h (Nat.le_refl _) _) (Nat.le_refl _) _) (Nat.le_refl _) _
set_option maxRecDepth 100000 in
set_option maxHeartbeats 2000000 in
theorem keyAt_any (g : Nat) (s : ByteArray) (hs : s.size ≤ 1000000) (k : Nat) (hk : k + 2 < s.size) (w : World) (hc : w.cell? ⟨g, 0, none⟩ = some (.string s)) :
    Calls Tryz.prog 72 #[.pointer (some ⟨g, 0, none⟩), .int .i64 k] w fun e w' => e = .returned (keyV s[k] (s[k + 1]'(by omega)) (s[k + 2]'hk)) ∧ Bw w w' := by
  have hk0 : (k : Int) < s.size := by omega
  have hk1 : (k : Int) + 1 < s.size := by omega
  have hk2 : (k : Int) + 2 < s.size := by omega
  have hc1 := cell_al1 hc (.cells #[.int .u8 0, .int .u8 0, .int .u8 0] 138)
  have hN : Has (w.alloc (.cells #[.int .u8 0, .int .u8 0, .int .u8 0] 138)) w.heap.size 138 #[.int .u8 0, .int .u8 0, .int .u8 0] := Has.new w _ _
  have HB := hid ((Bw.refl w).alloc (.cells #[.int .u8 0, .int .u8 0, .int .u8 0] 138))
  have HN := hid hN
  clear hc hN
  have e1 : IntKind.i64.wrap ((k : Int) + 1) = (k : Int) + 1 := IntWalk.i64_in _ (by omega)
  have e2 : IntKind.i64.wrap ((k : Int) + 2) = (k : Int) + 2 := IntWalk.i64_in _ (by omega)
  go_enter Tryz.func72, Tryz.ntmps72
  have n1 : (0 : Int) ≤ (k : Int) + 1 := by omega
  have n2 : (0 : Int) ≤ (k : Int) + 2 := by omega
  have t1 : ((k : Int) + 1).toNat = k + 1 := by omega
  have t2 : ((k : Int) + 2).toNat = k + 2 := by omega
  go_wp2_with fail
  generalize w.alloc (.cells #[.int .u8 0, .int .u8 0, .int .u8 0] 138) = W at *
  refine wp_region_still_tail 21 (by kernel_rfl) (by kernel_rfl) ?_
  simp only [List.take_succ_cons, List.take_zero, List.drop_succ_cons, List.drop_zero]
  repeat still_step
  refine wpStill_nil ?_
  change wpList _ _ _ _ _ W.drew
  have HN2 := hid HN.out.drew
  have HB2 := hid (HB.out.drewN 1)
  have HB3 : Hid (Bw w W.drew) := HB2
  generalize W.drew = W2 at *
  have d0 := HN2.out.cell 0
  have d1 := HN2.out.cell 1
  have d2 := HN2.out.cell 2
  have d0 : W2.cell? ⟨w.heap.size, 0, none⟩ = some (.int .u8 0) := d0
  have d1 : W2.cell? ⟨w.heap.size, 1, none⟩ = some (.int .u8 0) := d1
  have d2 : W2.cell? ⟨w.heap.size, 2, none⟩ = some (.int .u8 0) := d2
  have f0 := HN2.out.frozen 0
  have f1 := HN2.out.frozen 1
  have f2 := HN2.out.frozen 2
  have HP3 := hid (has_put3 HN2.out (.int .u8 (s[k].toNat : Nat)) (.int .u8 ((s[k + 1]'(by omega)).toNat : Nat)) (.int .u8 ((s[k + 2]'hk).toNat : Nat)))
  have HB4 := hid (put3_bw HB3.out (.int .u8 (s[k].toNat : Nat)) (.int .u8 ((s[k + 1]'(by omega)).toNat : Nat)) (.int .u8 ((s[k + 2]'hk).toNat : Nat)))
  go_wp2
  obtain ⟨p0, p1, p2⟩ := HP3.out
  unfold put3 at p0 p1 p2 HB4
  generalize World.setCell (World.setCell (World.setCell W2 _ _) _ _) _ _ = W3 at *
  try simp only [Exit.inBlock, Exit.then]
  refine bodyPost_ret (by simp [results, Tryz.results72, go_sem, p0, p1, p2]; try rfl) rfl ?_
  exact ⟨rfl, HB4.out⟩
def Same (s : ByteArray) (a b n : Nat) : Prop := ∀ i, i < n → s.data[a + i]? = s.data[b + i]?
def ComPost (s : ByteArray) (a b most : Nat) (w : World) (e : Ending) (w' : World) : Prop := ∃ n : Nat, e = .returned (.int .i64 n) ∧ n ≤ most ∧ Same s a b n ∧ (n = most ∨ s.data[a + n]? ≠ s.data[b + n]?) ∧ ∃ z, w' = w.drewN z
set_option maxRecDepth 100000 in
set_option maxHeartbeats 2000000 in
theorem common_any (g : Nat) (s : ByteArray) (hs : s.size ≤ 1000000) (a b most : Nat) (hab : a < b) (hb : b ≤ s.size) (hm : most = min (s.size - b) 258) (w : World) (hc : w.cell? ⟨g, 0, none⟩ = some (.string s)) :
    Calls Tryz.prog 73 #[.pointer (some ⟨g, 0, none⟩), .int .i64 a, .int .i64 b] w (ComPost s a b most w) := by
  have hmm : min ((s.size : Int) - b) 258 = most := by omega
  have hms : b + most ≤ s.size ∧ most ≤ 258 := by omega
  obtain ⟨hms1, hms2⟩ := hms
  clear hm
  go_enter Tryz.func73, Tryz.ntmps73
  go_wp2
  clear hmm
  go_loopw [8] (fun i wr => ∃ k : Nat, k ≤ most ∧ i = .int .i64 k ∧ Hid (Same s a b k) ∧ ∃ z, wr = w.drewN z) (fun i _ => most - (intOf i).toNat)
  case atStart => exact ⟨0, Nat.zero_le _, rfl, hid (fun i h => absurd h (Nat.not_lt_zero i)), 0, rfl⟩
  case round =>
    obtain ⟨k, hk, rfl, HS, z, rfl⟩ := hrel
    have hc1 : (w.drewN z).cell? ⟨g, 0, none⟩ = some (.string s) := by simpa using hc
    by_cases hlt : k < most
    · have d1 : decide (k < most) = true := decide_eq_true hlt
      have d1' : decide ((k : Int) < most) = true := decide_eq_true (by omega)
      have ha : a + k < s.size := by omega
      have hb2 : b + k < s.size := by omega
      have e1 : IntKind.i64.wrap ((a : Int) + k) = (a : Int) + k := IntWalk.i64_in _ (by omega)
      have e2 : IntKind.i64.wrap ((b : Int) + k) = (b : Int) + k := IntWalk.i64_in _ (by omega)
      have n1 : (0 : Int) ≤ (a : Int) + k := by omega
      have n2 : (0 : Int) ≤ (b : Int) + k := by omega
      have t1 : ((a : Int) + k).toNat = a + k := by omega
      have t2 : ((b : Int) + k).toNat = b + k := by omega
      have i1 : (a : Int) + k < s.size := by omega
      have i2 : (b : Int) + k < s.size := by omega
      have ga : s.data[a + k]? = some (s[a + k]'ha) := Array.getElem?_eq_getElem ha
      have gb : s.data[b + k]? = some (s[b + k]'hb2) := Array.getElem?_eq_getElem hb2
      have HGA := hid ga
      have HGB := hid gb
      clear ga gb
      have hfin : ∀ n, n ≤ most → Same s a b n → (n = most ∨ s.data[a + n]? ≠ s.data[b + n]?) → ∀ nq, ComPost s a b most w (.returned (.int .i64 n)) ((w.drewN z).drewN nq) := fun n h1 h2 h3 nq => ⟨n, rfl, h1, h2, h3, z + nq, by simp⟩
      have HFIN := hid hfin
      clear hfin
      by_cases heq : s[a + k]'ha = s[b + k]'hb2
      · have HS2 : Hid (Same s a b (k + 1)) := hid fun i hi => by
          rcases Nat.lt_or_ge i k with h | h
          · exact HS.out i h
          · obtain rfl : i = k := by omega
            rw [HGA.out, HGB.out, heq]
        have b1 : (((s[a + k]'ha).toNat : Int) == ((s[b + k]'hb2).toNat : Int)) = true := by rw [heq]; simp
        have b2 : ((s[a + k]'ha).toNat == (s[b + k]'hb2).toNat) = true := by rw [heq]; simp
        clear heq HGA HGB
        go_wp2_with fail
        go_quiet (fail)
        go_wp2
        exact ⟨⟨k + 1, by omega, by go_num, HS2, z + nq, by simp⟩, by simp [intOf]; omega⟩
      · have hne : (s[a + k]'ha).toNat ≠ (s[b + k]'hb2).toNat := fun h => heq (UInt8.toNat_inj.1 h)
        have b1 : (((s[a + k]'ha).toNat : Int) == ((s[b + k]'hb2).toNat : Int)) = false := by simp; omega
        have b2 : ((s[a + k]'ha).toNat == (s[b + k]'hb2).toNat) = false := by simpa using hne
        have hd : s.data[a + k]? ≠ s.data[b + k]? := by
          rw [HGA.out, HGB.out]
          intro h
          injection h with h
          exact heq h
        have HD := hid hd
        clear heq hne hd HGA HGB
        go_wp2_with fail
        go_quiet (fail)
        go_wp2
        go_returns
        exact HFIN.out k hk HS.out (.inr HD.out) nq
    · obtain rfl : k = most := by omega
      have hfin : ∀ n, n ≤ k → Same s a b n → (n = k ∨ s.data[a + n]? ≠ s.data[b + n]?) → ∀ nq, ComPost s a b k w (.returned (.int .i64 n)) ((w.drewN z).drewN nq) := fun n h1 h2 h3 nq => ⟨n, rfl, h1, h2, h3, z + nq, by simp⟩
      have HFIN := hid hfin
      have d1 : decide (k < k) = false := decide_eq_false (Nat.lt_irrefl _)
      have d1' : decide ((k : Int) < k) = false := decide_eq_false (by omega)
      clear hfin
      go_wp2_with fail
      go_quiet (fail)
      go_wp2
      go_returns
      exact HFIN.out k (Nat.le_refl _) HS.out (.inl rfl) nq
end Go.Proofs.YtkmbgkcpohchhaaGreatDoor
namespace Go.Proofs.YtkmbgkcpohchhaaGreatDoor
open Go.RowKit
set_option linter.unusedVariables false
def Hot (T : List TypeId) (w : World) (i : Nat) : Prop := ∃ cs t, w.heap[i]? = some (.cells cs t (0, 0)) ∧ t ∈ T
structure KT (T : List TypeId) (B : Nat) (w w' : World) : Prop where
  os : w'.os = w.os
  tape : w'.tape = w.tape
  output : w'.output = w.output
  size : w.heap.size ≤ w'.heap.size
  block : ∀ i, i < w.heap.size → (i < B ∨ ¬ Hot T w i) → w'.heap[i]? = w.heap[i]?
section
variable {T : List TypeId} {B : Nat} {a b c w w' : World}
theorem KT.refl (w : World) : KT T B w w := ⟨rfl, rfl, rfl, Nat.le_refl _, fun _ _ _ => rfl⟩
theorem KT.trans (h : KT T B a b) (k : KT T B b c) : KT T B a c :=
  ⟨k.os.trans h.os, k.tape.trans h.tape, k.output.trans h.output, Nat.le_trans h.size k.size, fun i hi hn => by
    have e := h.block i hi hn
    refine (k.block i (Nat.lt_of_lt_of_le hi h.size) ?_).trans e
    rcases hn with hn | hn
    · exact .inl hn
    · refine .inr fun ⟨cs, t, h1, h2⟩ => hn ⟨cs, t, e ▸ h1, h2⟩⟩
theorem KT.of_bw (h : Bw w w') : KT T B w w' := ⟨h.os, h.tape, h.output, Below.size h, fun i hi _ => Below.block h i hi⟩
theorem KT.of_keeps {F : Nat → Prop} (h : Keeps F w w') (hF : ∀ i, i < w.heap.size → F i → B ≤ i ∧ Hot T w i) : KT T B w w' :=
  ⟨h.os, h.tape, h.output, h.size, fun i hi hn => h.block i hi fun hf => by
    obtain ⟨h1, h2⟩ := hF i hi hf
    rcases hn with hn | hn
    · omega
    · exact hn h2⟩
theorem KT.below (h : KT T B w w') {D : Nat} (hD : D ≤ B) (hB : B ≤ w.heap.size) : Below D w w' := ⟨h.os, h.tape, h.output, h.size, fun i hi => h.block i (by omega) (.inl (by omega))⟩
theorem KT.base {B' : Nat} (h : KT T B w w') (hB : B' ≤ B) : KT T B' w w' := ⟨h.os, h.tape, h.output, h.size, fun i hi hn => h.block i hi (hn.imp_left fun h => by omega)⟩
theorem Has.hot {g : Nat} {t : TypeId} {cs : Array Value} (h : Has w g t cs) (ht : t ∈ T) : Hot T w g := ⟨cs, t, h, ht⟩
theorem Has.nothot {g : Nat} {t : TypeId} {cs : Array Value} (h : Has w g t cs) (ht : t ∉ T) : ¬ Hot T w g := fun ⟨cs', t', h1, h2⟩ => by
  unfold Has at h
  rw [h] at h1
  injection h1 with h1
  injection h1 with _ h1
  subst h1
  exact ht h2
theorem KT.has (h : KT T B w w') {g : Nat} {t : TypeId} {cs : Array Value} (k : Has w g t cs) (ht : t ∉ T) : Has w' g t cs := (h.block g k.lt (.inr (k.nothot ht))).trans k
theorem KT.own (h : KT T B w w') {D t size n : Nat} {v : Value} {xs : List Value} (k : w.ownsRow D t size v n xs) (ht : t ∉ T) : w'.ownsRow D t size v n xs :=
  own_keep k fun b hb => by
    obtain ⟨cur, hc⟩ := own_at k hb
    exact h.block b (own_lt k hb) (.inr (Has.nothot (show Has w b t cur from hc) ht))
theorem KT.of_grown {D t size n : Nat} {v : Value} {xs : List Value} {w1 w2 : World} (h : w1.ownsRow D t size v n xs) (hD : B ≤ D) (hg : w1.grownBy w2 v.ownBlock) (ht : t ∈ T) : KT T B w1 w2 :=
  ⟨hg.os, hg.tape, hg.output, hg.size, fun i hi hn => hg.block i hi fun hx => by
    obtain ⟨cur, hc⟩ := own_at h hx.symm
    have hge := own_ge h hx.symm
    rcases hn with hn | hn
    · omega
    · exact hn ⟨cur, t, hc, ht⟩⟩
theorem KT.setCell (h : KT T B a w) {p : Addr} (hp : B ≤ p.block) (hh : Hot T w p.block) (u : Value) : KT T B a (w.setCell p u) :=
  h.trans (KT.of_keeps (Keeps.of_setCell (F := (· = p.block)) rfl u) fun i _ e => by subst e; exact ⟨hp, hh⟩)
theorem KT.alloc (h : KT T B a w) (o : Obj) : KT T B a (w.alloc o) := h.trans (.of_bw (Bw.alloc (Bw.refl _) o))
theorem KT.drewN (h : KT T B a w) (n : Nat) : KT T B a (w.drewN n) := h.trans (.of_bw (Bw.drewN (Bw.refl _) n))
end
end Go.Proofs.YtkmbgkcpohchhaaGreatDoor
namespace Go.Proofs.YtkmbgkcpohchhaaGreatDoor
open Go.RowKit Go.Conc
set_option linter.unusedVariables false
def TabAt (B : Nat) (w : World) (tb : Nat) (P : List Path) (lf : Path → Option Nat) : Prop :=
  ∃ v, Has w tb 204 #[v] ∧ w.ownsRow B 210 2 v P.length (rowCells P lf)
theorem rowInfo : (Tryz.prog.info? 210).map (fun i => (i.zero, i.size, i.bytes)) = some (some (.agg #[.int .i64 0, .int .i64 0]), 2, 16) := by kernel_rfl
theorem bit_i64 (x i : Nat) (hx : x < 4611686018427387904) : bits .and .i64 (((x : Nat) : Int) / 2 ^ i) 1 = ((x / 2 ^ i % 2 : Nat) : Int) := by
  have hd : x / 2 ^ i ≤ x := Nat.div_le_self _ _
  have e : ((x : Nat) : Int) / 2 ^ i = ((x / 2 ^ i : Nat) : Int) := by simp
  rw [e]
  exact and_one _ (by omega)
theorem half_of (c n L : Nat) (h : L < n) : c / 2 ^ (n - L) = c / 2 ^ (n - 1 - L) / 2 := by
  rw [Nat.div_div_eq_div_mul, ← Nat.pow_succ, show (n - 1 - L).succ = n - L by omega]
def WayIn (P P0 : List Path) (n c : Nat) : Prop := ∀ p, p ∈ P ↔ p ∈ P0 ∨ (p.1 < n ∧ p.2 = c / 2 ^ (n - p.1))
theorem way_step (c n L : Nat) (p : Path) : (p.1 ≤ L + 1 ∧ p.2 = c / 2 ^ (n - p.1)) ↔ (p.1 ≤ L ∧ p.2 = c / 2 ^ (n - p.1)) ∨ p = (L + 1, c / 2 ^ (n - (L + 1))) := by
  constructor
  · rintro ⟨h1, h2⟩
    by_cases e : p.1 = L + 1
    · right; rw [e] at h2; exact Prod.ext e h2
    · left; exact ⟨by omega, h2⟩
  · rintro (⟨h1, h2⟩ | h)
    · exact ⟨by omega, h2⟩
    · rw [h]; exact ⟨Nat.le_refl _, rfl⟩
theorem way_old {c n L : Nat} {P P0 : List Path} (h : ∀ p, p ∈ P ↔ p ∈ P0 ∨ (p.1 ≤ L ∧ p.2 = c / 2 ^ (n - p.1))) (hq : (L + 1, c / 2 ^ (n - (L + 1))) ∈ P) (p : Path) : p ∈ P ↔ p ∈ P0 ∨ (p.1 ≤ L + 1 ∧ p.2 = c / 2 ^ (n - p.1)) := by
  rw [way_step]
  constructor
  · intro hp
    rcases (h p).1 hp with h1 | h1
    · exact .inl h1
    · exact .inr (.inl h1)
  · rintro (h1 | h1 | h1)
    · exact (h p).2 (.inl h1)
    · exact (h p).2 (.inr h1)
    · rw [h1]; exact hq
theorem way_new {c n L : Nat} {P P0 : List Path} (h : ∀ p, p ∈ P ↔ p ∈ P0 ∨ (p.1 ≤ L ∧ p.2 = c / 2 ^ (n - p.1))) (p : Path) : p ∈ P ++ [(L + 1, c / 2 ^ (n - (L + 1)))] ↔ p ∈ P0 ∨ (p.1 ≤ L + 1 ∧ p.2 = c / 2 ^ (n - p.1)) := by
  rw [way_step, List.mem_append, List.mem_singleton, h p, or_assoc]
theorem not_i64 (x : Nat) (hx : x < 1000000) : bits .xor .i64 (-1) (x : Int) = -((x : Int) + 1) := by
  rw [i64_not x (by omega)]
  omega
set_option maxRecDepth 100000 in
set_option maxHeartbeats 8000000 in
theorem add_any (B tb sym c n : Nat) (P0 : List Path) (lf : Path → Option Nat) (hT : TreeOk P0 lf) (h15 : n ≤ 15) (h0 : 0 < n) (hc : c < 2 ^ n) (hsym : sym < 1000) (hP : P0.length ≤ 100000)
    (hway : ∀ M, 0 < M → M < n → lf (M, c / 2 ^ (n - M)) = none) (w : World) (hB : B ≤ tb) (h : TabAt B w tb P0 lf) :
    Calls Tryz.prog 144 #[.pointer (some ⟨tb, 0, none⟩), .int .i64 sym, .int .i64 c, .int .i64 n] w fun e w' => e = .returned (.tuple #[]) ∧ ∃ P, TreeOk P (lfPut lf (n, c) sym) ∧ WayIn P P0 n c ∧ P.length ≤ P0.length + n ∧ TabAt B w' tb P (lfPut lf (n, c) sym) ∧ Below B w w' := by
  obtain ⟨i0, hinf, hz0, hz1, hz2⟩ := info_parts rowInfo
  obtain ⟨v, hh, ho⟩ := h
  have htb := hh.lt
  have hc0 : c / 2 ^ n = 0 := Nat.div_eq_of_lt hc
  have hce : ∀ p : Path, (p.1 ≤ 0 ∧ p.2 = c / 2 ^ (n - p.1)) ↔ p = (0, 0) := fun p => by
    constructor
    · rintro ⟨h1, h2⟩
      have e : p.1 = 0 := by omega
      rw [e, Nat.sub_zero, hc0] at h2
      exact Prod.ext e h2
    · rintro rfl
      exact ⟨Nat.le_refl _, by rw [Nat.sub_zero, hc0]⟩
  have HC15 := hid (show c < 4611686018427387904 from Nat.lt_of_lt_of_le hc (Nat.le_trans (Nat.pow_le_pow_right (by decide) h15) (by decide)))
  by_cases hne : 0 < P0.length
  · obtain ⟨rb, cap, rfl⟩ := own_some ho hne
    have hl0 : ((P0.length : Int) == 0) = false := by
      have : ¬ (P0.length : Int) = 0 := by omega
      simpa using this
    have HTab := hid (⟨_, hh, ho⟩ : TabAt B w tb P0 lf)
    have HB := hid (Below.refl B w)
    have hr0 : (0, 0) ∈ P0 := by
      have e := hT.root P0[0] (List.getElem?_eq_getElem hne)
      rw [← e]; exact List.getElem_mem hne
    have HM := hid (fun p : Path => (⟨fun h => .inl h, fun h => h.elim id fun h => by rw [(hce p).1 h]; exact hr0⟩ : p ∈ P0 ↔ p ∈ P0 ∨ (p.1 ≤ 0 ∧ p.2 = c / 2 ^ (n - p.1))))
    have HR := hid hr0
    have HT := hid hT
    have HL0 := hid (show P0.length ≤ P0.length + 0 + 1 by omega)
    have HI0 := hid (show P0.idxOf (0, 0) = 0 by
      have e := hT.root P0[0] (List.getElem?_eq_getElem hne)
      have := hT.nd.idxOf_getElem 0 hne
      rw [e] at this
      exact this)
    have HW := hid hway
    have HC := hid hc0
    have cc : w.cell? ⟨tb, 0, none⟩ = some (.slice (some ⟨rb, 0, none⟩) P0.length cap) := hh.cell 0
    clear hT hh ho hway hce hr0 hc0
    go_enter Tryz.func144, Tryz.ntmps144
    go_wp2_with fail
    clear cc hl0
    go_loopw [8, 9] (fun at_ i wr => ∃ (L : Nat) (P : List Path), L < n ∧ i = .int .i64 ((n - 1 - L : Nat) : Int) ∧ at_ = .int .i64 (P.idxOf (L, c / 2 ^ (n - L)) : Nat) ∧ (L, c / 2 ^ (n - L)) ∈ P ∧ TreeOk P lf ∧ (∀ p, p ∈ P ↔ p ∈ P0 ∨ (p.1 ≤ L ∧ p.2 = c / 2 ^ (n - p.1))) ∧ P.length ≤ P0.length + L + 1 ∧ TabAt B wr tb P lf ∧ Below B w wr) (fun _ i _ => (intOf i).toNat)
    case atStart => exact ⟨0, P0, h0, by rw [show n - 1 - 0 = n - 1 by omega, show ((n - 1 : Nat) : Int) = (n : Int) - 1 by omega], by rw [Nat.sub_zero, HC.out, HI0.out]; rfl, by rw [Nat.sub_zero, HC.out]; exact HR.out, HT.out, HM.out, HL0.out, HTab.out, HB.out⟩
    case round =>
      clear HT HM HR HTab HB HI0 HL0
      obtain ⟨L, P, hL, rfl, rfl, hmem, hT, hM, hlen, hTab, hBe⟩ := hrel
      have hBz := hBe.size
      obtain ⟨v, hh, ho⟩ := hTab
      obtain ⟨rb, cap, rfl⟩ := own_some ho (List.length_pos_of_mem hmem)
      have hrt : rb ≠ tb := fun e => own_ne_has ho hh (by decide) (by rw [e]; rfl)
      have hcap := ownp_cap ho
      obtain ⟨u, hu⟩ : ∃ u, c / 2 ^ (n - L) = u := ⟨_, rfl⟩
      obtain ⟨i, hi⟩ : ∃ i, n - 1 - L = i := ⟨_, rfl⟩
      obtain ⟨b, hb⟩ : ∃ b, c / 2 ^ i % 2 = b := ⟨_, rfl⟩
      have hb2 : b < 2 := by omega
      have hub : c / 2 ^ i = 2 * u + b := by
        have := half_of c n L hL
        rw [hi, hu] at this
        omega
      rw [hu] at hmem
      rw [hu, hi]
      obtain ⟨hat, hatE⟩ := idx_at hmem
      obtain ⟨ix, hix⟩ : ∃ ix, P.idxOf (L, u) = ix := ⟨_, rfl⟩
      obtain ⟨len, hPl⟩ : ∃ len, P.length = len := ⟨_, rfl⟩
      have hcell := ownp_cell ho (rowCells_get P lf (P.idxOf (L, u)) b hat hb2)
      rw [hatE, show 2 * P.idxOf (L, u) + b = P.idxOf (L, u) * 2 + b by omega] at hcell
      simp only at hcell
      rw [hix] at hat hcell
      rw [hPl] at hat hlen hcap
      rw [hix]
      have hbi := bit_i64 c i HC15.out
      rw [hb] at hbi
      have cc : wr.cell? ⟨tb, 0, none⟩ = some (.slice (some ⟨rb, 0, none⟩) len cap) := by rw [← hPl]; exact hh.cell 0
      by_cases hlt : L + 1 < n
      · have hi0 : 0 < i := by omega
        have hi15 : i < 15 := by omega
        have hlq : lf (L + 1, 2 * u + b) = none := by
          have := HW.out (L + 1) (by omega) hlt
          rwa [show n - (L + 1) = i by omega, hub] at this
        by_cases hq : (L + 1, 2 * u + b) ∈ P
        · rw [chl_row hlq hq] at hcell
          have hpos := idx_pos hT hq (by simp)
          have HX := hid (show n - 1 - (L + 1) = i - 1 by omega)
          have HU := hid (show c / 2 ^ (n - (L + 1)) = 2 * u + b by rw [show n - (L + 1) = i by omega]; exact hub)
          have HK := hid (⟨hq, hT, hM, hPl, ⟨_, hh, ho⟩, hBe⟩ : (L + 1, 2 * u + b) ∈ P ∧ TreeOk P lf ∧ (∀ p, p ∈ P ↔ p ∈ P0 ∨ (p.1 ≤ L ∧ p.2 = c / 2 ^ (n - p.1))) ∧ P.length = len ∧ TabAt B wr tb P lf ∧ Below B w wr)
          have hb2i : (b : Int) < 2 := by omega
          have hati : (ix : Int) < len := by omega
          clear hq hT hM hPl hh ho hBe hu hub hb hi hix hmem hatE
          generalize hiq : P.idxOf (L + 1, 2 * u + b) = iq at *
          have HIQ := hid hiq
          clear hiq
          go_wp2
          go_roundw
          case rel => exact ⟨L + 1, P, hlt, congrArg (Value.int .i64) (by rw [HX.out]; omega), by rw [HU.out, HIQ.out], by rw [HU.out]; exact HK.out.1, HK.out.2.1, way_old HK.out.2.2.1 (by rw [HU.out]; exact HK.out.1), by rw [HK.out.2.2.2.1]; omega, HK.out.2.2.2.2.1, HK.out.2.2.2.2.2⟩
          case measure => simp [intOf]; omega
        · rw [chl_none hlq hq] at hcell
          have hati : (ix : Int) < len := by omega
          have hb2i : (b : Int) < 2 := by omega
          have f1 := ownp_frozen ho (ix * 2 + b)
          have HKm := hid hmem
          have HKi := hid hix
          have HUB := hid hub
          have HI := hid hi
          have HK := hid (⟨hq, hT, hM, hPl, hh, ho, hBe⟩ : ¬ (L + 1, 2 * u + b) ∈ P ∧ TreeOk P lf ∧ (∀ p, p ∈ P ↔ p ∈ P0 ∨ (p.1 ≤ L ∧ p.2 = c / 2 ^ (n - p.1))) ∧ P.length = len ∧ Has wr tb 204 #[Value.slice (some ⟨rb, 0, none⟩) P.length cap] ∧ wr.ownsRow B 210 2 (Value.slice (some ⟨rb, 0, none⟩) P.length cap) P.length (rowCells P lf) ∧ Below B w wr)
          clear hq hT hM hPl hh ho hBe hu hub hb hi hix hmem hatE
          go_wp2_with fail
          go_region
          have HH2 := hid ((HK.out.2.2.2.2.1.far (p := ⟨rb, ix * 2 + b, none⟩) (show tb ≠ rb from fun e => hrt e.symm) (.int .i64 len)).drew)
          have HO2 : Hid ((wr.setCell ⟨rb, ix * 2 + b, none⟩ (.int .i64 len)).drew.ownsRow B 210 2 (Value.slice (some ⟨rb, 0, none⟩) P.length cap) P.length ((rowCells P lf).set (ix * 2 + b) (.int .i64 len))) := hid ((Bw.drewN (Bw.refl _) 1).own (ownp_set HK.out.2.2.2.2.2.1 (ix * 2 + b) (.int .i64 len)))
          have HB2 : Hid (Below B w (wr.setCell ⟨rb, ix * 2 + b, none⟩ (.int .i64 len)).drew) := hid (below_drewN (Below.setCell HK.out.2.2.2.2.2.2 (p := ⟨rb, ix * 2 + b, none⟩) (own_ge HK.out.2.2.2.2.2.1 (b := rb) rfl) (.int .i64 len)) 1)
          rw [HK.out.2.2.2.1] at HO2 HH2
          generalize (wr.setCell ⟨rb, ix * 2 + b, none⟩ (.int .i64 len)).drew = W2 at *
          have c2 := HH2.out.cell 0
          have HG := hid (tree_grow HK.out.2.1 L u b hb2 (HKm.out) HK.out.1 hlq)
          have HXJ := hid (show ((rowCells P lf).set (ix * 2 + b) (.int .i64 (len : Int)) ++ [.int .i64 0, .int .i64 0])[ix * 2 + b]? = some (.int .i64 (len : Int)) from by rw [List.getElem?_append_left (by rw [List.length_set, rowCells_len, HK.out.2.2.2.1]; omega), List.getElem?_set_self (by rw [rowCells_len, HK.out.2.2.2.1]; omega)])
          have hati5 : (ix : Int) < len + 1 := by omega
          have hB2 : B ≤ W2.heap.size := by have := HB2.out.size; omega
          go_wp2_with (at_builtin; refine wpList_append_own_at _ rfl (.tmp 64) (.tmp 66) 202 rfl B 210 i0 (.agg #[.int .i64 0, .int .i64 0]) 2 16 Tryz.underlying202 hinf hz0 hz1 hz2 rfl (by decide) (.slice (some ⟨rb, 0, none⟩) len cap) len ((rowCells P lf).set (ix * 2 + b) (.int .i64 len)) rfl (HO2.out.alloc _) ⟨W2.heap.size, 0, none⟩ 1 1 [.int .i64 0, .int .i64 0] rfl rfl (own_two _ _ _ _) (by intro u hu; simp at hu; subst hu; rfl) (by unfold maxLen; omega) (by omega) (by simp only [World.size_alloc]; omega) ?_; intro v' w5 hown5 hgrow5 _ _; obtain ⟨rb5, cap5, rfl⟩ := own_some hown5 (by omega); have HO5 := hid hown5; have HG5 := hid hgrow5; have h5 := has_grown (HH2.out.alloc _) hgrow5 (own_ne_has HO2.out HH2.out (by decide)); have H5 := hid h5; have c5 : w5.cell? ⟨tb, 0, none⟩ = some (.slice (some ⟨rb, 0, none⟩) len cap) := h5.cell 0; have f5 := h5.frozen 0; have hne5 : rb5 ≠ tb := fun e => own_ne_has hown5 h5 (by decide) (by rw [e]; rfl); have HF5 := hid (own_far hown5 (p := ⟨tb, 0, none⟩) (fun e => hne5 (by injection e)) (.slice (some ⟨rb5, 0, none⟩) (len + 1) cap5)); have y5 := ownp_cell HF5.out HXJ.out; have hcap5 := ownp_cap hown5; clear hown5 hgrow5 h5)
          go_roundw
          case rel =>
            have HX := hid (show n - 1 - (L + 1) = i - 1 by have := HI.out; omega)
            have HU := hid (show c / 2 ^ (n - (L + 1)) = 2 * u + b by rw [show n - (L + 1) = i by have := HI.out; omega]; exact HUB.out)
            have hlenP : (P ++ [(L + 1, 2 * u + b)]).length = len + 1 := by rw [List.length_append, HK.out.2.2.2.1]; rfl
            refine ⟨L + 1, P ++ [(L + 1, 2 * u + b)], hlt, congrArg (Value.int .i64) (by rw [HX.out]; omega), ?_, ?_, tree_grow_ok HK.out.2.1 L u b hb2 HKm.out HK.out.1, ?_, by rw [hlenP]; omega, ⟨_, by simpa using H5.out.put 0 (.slice (some ⟨rb5, 0, none⟩) (len + 1) cap5), ?_⟩, Below.setCell (Below.trans (Below.alloc HB2.out hB2 _) (own_grownJ HO2.out HG5.out (by simp only [World.size_alloc]; omega))) hB _⟩
            · rw [HU.out, List.idxOf_append, if_neg HK.out.1, HK.out.2.2.2.1]; simp
            · rw [HU.out]; simp
            · rw [← HU.out]; exact way_new HK.out.2.2.1
            · have hg := HG.out
              rw [HKi.out, HK.out.2.2.2.1, show 2 * ix + b = ix * 2 + b by omega] at hg
              rw [hlenP, ← hg]
              exact HF5.out
          case measure => simp [intOf]; omega
      · obtain rfl : n = L + 1 := by omega
        obtain rfl : i = 0 := by omega
        have hb2i : (b : Int) < 2 := by omega
        have hati : (ix : Int) < len := by omega
        have f1 := ownp_frozen ho (ix * 2 + b)
        have hbe : bits .and .i64 (c : Int) 1 = (b : Int) := by
          have := hbi
          simpa using this
        have hnot := not_i64 sym (by omega)
        have hcu : c = 2 * u + b := by simpa using hub
        have HKt := hid (tree_leaf hT L u b hb2 hmem sym)
        have HKo := hid (tree_leaf_ok hT L (2 * u + b) (by rw [show (2 * u + b) / 2 = u by omega]; exact hmem) sym)
        have HK := hid (⟨hT, hM, hPl, hh, ho, hBe⟩ : TreeOk P lf ∧ (∀ p, p ∈ P ↔ p ∈ P0 ∨ (p.1 ≤ L ∧ p.2 = c / 2 ^ (L + 1 - p.1))) ∧ P.length = len ∧ Has wr tb 204 #[Value.slice (some ⟨rb, 0, none⟩) P.length cap] ∧ wr.ownsRow B 210 2 (Value.slice (some ⟨rb, 0, none⟩) P.length cap) P.length (rowCells P lf) ∧ Below B w wr)
        have HIX := hid hix
        have HCU := hid hcu
        clear hT hM hPl hh ho hBe hu hub hb hmem hatE hbi hix hcu
        go_wp2
        go_returns
        refine ⟨rfl, P, ?_, fun p => (HK.out.2.1 p).trans ?_, by rw [HK.out.2.2.1]; first | omega | (have hz : ([] : List Path).length = 0 := rfl; omega), ⟨_, HK.out.2.2.2.1.far (p := ⟨rb, ix * 2 + b, none⟩) (show tb ≠ rb from fun e => hrt e.symm) _, ?_⟩, Below.setCell HK.out.2.2.2.2.2 (p := ⟨rb, ix * 2 + b, none⟩) (own_ge HK.out.2.2.2.2.1 (b := rb) rfl) _⟩
        · rw [HCU.out]; exact HKo.out
        · have e : p.1 ≤ L ↔ p.1 < L + 1 := by omega
          rw [e]
        · have hs := ownp_set HK.out.2.2.2.2.1 (ix * 2 + b) (.int .i64 (-((sym : Int) + 1)))
          have hg := HKt.out
          rw [HIX.out, show 2 * ix + b = ix * 2 + b by omega] at hg
          rw [hg] at hs
          rw [HCU.out]
          exact hs
  · obtain rfl : P0 = [] := by
      rcases P0 with _ | ⟨x, r⟩
      · rfl
      · simp at hne
    rcases ho.2 with ⟨rfl, _⟩ | ⟨g', cap', cur, rfl, hg1, hg2, hg3, hg4, hg5, hg6⟩
    all_goals
      have hT0 : TreeOk [(0, 0)] lf := ⟨by simp, fun p hp => by simpa using hp.symm, fun L v hp => by simp at hp, fun L v i hp => absurd (hT.lup _ _ _ hp) (by simp)⟩
      have hl1 : ∀ v, lf (1, v) = none := fun v => by
        cases hx : lf (1, v) with
        | none => rfl
        | some i => exact absurd (hT.lup 0 v i hx) (by simp)
      have hR0 : rowCells [(0, 0)] lf = [.int .i64 0, .int .i64 0] := by
        have a0 : chl [(0, 0)] lf (1, 0) = 0 := chl_none (hl1 0) (by simp)
        have a1 : chl [(0, 0)] lf (1, 1) = 0 := chl_none (hl1 1) (by simp)
        simp only [rowCells, rowOf, List.flatMap_cons, List.flatMap_nil, List.append_nil]
        simp only [Nat.zero_add, Nat.mul_zero]
        rw [a0, a1]
      have HM := hid (fun p : Path => (⟨fun h => .inr ((hce p).2 (by simpa using h)), fun h => h.elim (fun h => by simp at h) fun h => by rw [(hce p).1 h]; simp⟩ : p ∈ [(0, 0)] ↔ p ∈ ([] : List Path) ∨ (p.1 ≤ 0 ∧ p.2 = c / 2 ^ (n - p.1))))
      have HT := hid hT0
      have HR0 := hid hR0
      have HW := hid hway
      have HC := hid hc0
      have HHH := hid hh
      have HOO := hid ho
      have cc := hh.cell 0
      have ff := hh.frozen 0
      have HWB : B ≤ w.heap.size := by omega
      clear hT hh ho hway hce hc0 hl1 hT0 hR0
      go_enter Tryz.func144, Tryz.ntmps144
      go_wp2_with (at_builtin; refine wpList_append_own_at _ rfl (.tmp 21) (.tmp 23) 202 rfl B 210 i0 (.agg #[.int .i64 0, .int .i64 0]) 2 16 Tryz.underlying202 hinf hz0 hz1 hz2 rfl (by decide) _ 0 [] rfl (HOO.out.alloc _) ⟨w.heap.size, 0, none⟩ 1 1 [.int .i64 0, .int .i64 0] rfl rfl (own_two _ _ _ _) (by intro u hu; simp at hu; subst hu; rfl) (by unfold maxLen; omega) (by omega) (by simp only [World.size_alloc]; omega) ?_; intro v' w5 hown5 hgrow5 _ _; obtain ⟨rb5, cap5, rfl⟩ := own_some hown5 (by omega); have HO5 := hid hown5; have HG5 := hid hgrow5; have h5 := has_grown (HHH.out.alloc _) hgrow5 (own_ne_has HOO.out HHH.out (by decide)); have H5 := hid h5; have c5 := h5.cell 0; have f5 := h5.frozen 0; have hne5 : rb5 ≠ tb := fun e => own_ne_has hown5 h5 (by decide) (by rw [e]; rfl); have HF5 := hid (own_far hown5 (p := ⟨tb, 0, none⟩) (fun e => hne5 (by injection e)) (.slice (some ⟨rb5, 0, none⟩) 1 cap5)); clear hown5 hgrow5 h5)
      have HTab : Hid (TabAt B (w5.setCell ⟨tb, 0, none⟩ (.slice (some ⟨rb5, 0, none⟩) 1 cap5)) tb [(0, 0)] lf) := hid ⟨_, by simpa using H5.out.put 0 (.slice (some ⟨rb5, 0, none⟩) 1 cap5), by rw [HR0.out]; exact HF5.out⟩
      have HB : Hid (Below B w (w5.setCell ⟨tb, 0, none⟩ (.slice (some ⟨rb5, 0, none⟩) 1 cap5))) := hid (Below.setCell (Below.trans (Below.alloc (Below.refl B w) HWB _) (own_grownJ HOO.out HG5.out (by simp only [World.size_alloc]; omega))) hB _)
      have HI0 := hid (show List.idxOf ((0, 0) : Path) [(0, 0)] = 0 by simp)
      have HR := hid (show ((0, 0) : Path) ∈ [(0, 0)] by simp)
      have HL0 := hid (show [((0, 0) : Path)].length ≤ ([] : List Path).length + 0 + 1 by simp)
      clear H5 HF5 HO5 HG5 HHH HOO c5 f5 cc ff hne5 HR0
      generalize w5.setCell ⟨tb, 0, none⟩ (.slice (some ⟨rb5, 0, none⟩) 1 cap5) = W1 at *
      go_loopw [8, 9] (fun at_ i wr => ∃ (L : Nat) (P : List Path), L < n ∧ i = .int .i64 ((n - 1 - L : Nat) : Int) ∧ at_ = .int .i64 (P.idxOf (L, c / 2 ^ (n - L)) : Nat) ∧ (L, c / 2 ^ (n - L)) ∈ P ∧ TreeOk P lf ∧ (∀ p, p ∈ P ↔ p ∈ ([] : List Path) ∨ (p.1 ≤ L ∧ p.2 = c / 2 ^ (n - p.1))) ∧ P.length ≤ ([] : List Path).length + L + 1 ∧ TabAt B wr tb P lf ∧ Below B w wr) (fun _ i _ => (intOf i).toNat)
      case atStart => exact ⟨0, [(0, 0)], h0, by rw [show n - 1 - 0 = n - 1 by omega, show ((n - 1 : Nat) : Int) = (n : Int) - 1 by omega], by rw [Nat.sub_zero, HC.out, HI0.out]; rfl, by rw [Nat.sub_zero, HC.out]; exact HR.out, HT.out, HM.out, HL0.out, HTab.out, HB.out⟩
      case round =>
        clear HT HM HR HTab HB HI0 HL0
        obtain ⟨L, P, hL, rfl, rfl, hmem, hT, hM, hlen, hTab, hBe⟩ := hrel
        have hBz := hBe.size
        obtain ⟨v, hh, ho⟩ := hTab
        obtain ⟨rb, cap, rfl⟩ := own_some ho (List.length_pos_of_mem hmem)
        have hrt : rb ≠ tb := fun e => own_ne_has ho hh (by decide) (by rw [e]; rfl)
        have hcap := ownp_cap ho
        obtain ⟨u, hu⟩ : ∃ u, c / 2 ^ (n - L) = u := ⟨_, rfl⟩
        obtain ⟨i, hi⟩ : ∃ i, n - 1 - L = i := ⟨_, rfl⟩
        obtain ⟨b, hb⟩ : ∃ b, c / 2 ^ i % 2 = b := ⟨_, rfl⟩
        have hb2 : b < 2 := by omega
        have hub : c / 2 ^ i = 2 * u + b := by
          have := half_of c n L hL
          rw [hi, hu] at this
          omega
        rw [hu] at hmem
        rw [hu, hi]
        obtain ⟨hat, hatE⟩ := idx_at hmem
        obtain ⟨ix, hix⟩ : ∃ ix, P.idxOf (L, u) = ix := ⟨_, rfl⟩
        obtain ⟨len, hPl⟩ : ∃ len, P.length = len := ⟨_, rfl⟩
        have hcell := ownp_cell ho (rowCells_get P lf (P.idxOf (L, u)) b hat hb2)
        rw [hatE, show 2 * P.idxOf (L, u) + b = P.idxOf (L, u) * 2 + b by omega] at hcell
        simp only at hcell
        rw [hix] at hat hcell
        rw [hPl] at hat hlen hcap
        rw [hix]
        have hbi := bit_i64 c i HC15.out
        rw [hb] at hbi
        have cc : wr.cell? ⟨tb, 0, none⟩ = some (.slice (some ⟨rb, 0, none⟩) len cap) := by rw [← hPl]; exact hh.cell 0
        by_cases hlt : L + 1 < n
        · have hi0 : 0 < i := by omega
          have hi15 : i < 15 := by omega
          have hlq : lf (L + 1, 2 * u + b) = none := by
            have := HW.out (L + 1) (by omega) hlt
            rwa [show n - (L + 1) = i by omega, hub] at this
          by_cases hq : (L + 1, 2 * u + b) ∈ P
          · rw [chl_row hlq hq] at hcell
            have hpos := idx_pos hT hq (by simp)
            have HX := hid (show n - 1 - (L + 1) = i - 1 by omega)
            have HU := hid (show c / 2 ^ (n - (L + 1)) = 2 * u + b by rw [show n - (L + 1) = i by omega]; exact hub)
            have HK := hid (⟨hq, hT, hM, hPl, ⟨_, hh, ho⟩, hBe⟩ : (L + 1, 2 * u + b) ∈ P ∧ TreeOk P lf ∧ (∀ p, p ∈ P ↔ p ∈ ([] : List Path) ∨ (p.1 ≤ L ∧ p.2 = c / 2 ^ (n - p.1))) ∧ P.length = len ∧ TabAt B wr tb P lf ∧ Below B w wr)
            have hb2i : (b : Int) < 2 := by omega
            have hati : (ix : Int) < len := by omega
            clear hq hT hM hPl hh ho hBe hu hub hb hi hix hmem hatE
            generalize hiq : P.idxOf (L + 1, 2 * u + b) = iq at *
            have HIQ := hid hiq
            clear hiq
            go_wp2
            go_roundw
            case rel => exact ⟨L + 1, P, hlt, congrArg (Value.int .i64) (by rw [HX.out]; omega), by rw [HU.out, HIQ.out], by rw [HU.out]; exact HK.out.1, HK.out.2.1, way_old HK.out.2.2.1 (by rw [HU.out]; exact HK.out.1), by rw [HK.out.2.2.2.1]; omega, HK.out.2.2.2.2.1, HK.out.2.2.2.2.2⟩
            case measure => simp [intOf]; omega
          · rw [chl_none hlq hq] at hcell
            have hati : (ix : Int) < len := by omega
            have hb2i : (b : Int) < 2 := by omega
            have f1 := ownp_frozen ho (ix * 2 + b)
            have HKm := hid hmem
            have HKi := hid hix
            have HUB := hid hub
            have HI := hid hi
            have HK := hid (⟨hq, hT, hM, hPl, hh, ho, hBe⟩ : ¬ (L + 1, 2 * u + b) ∈ P ∧ TreeOk P lf ∧ (∀ p, p ∈ P ↔ p ∈ ([] : List Path) ∨ (p.1 ≤ L ∧ p.2 = c / 2 ^ (n - p.1))) ∧ P.length = len ∧ Has wr tb 204 #[Value.slice (some ⟨rb, 0, none⟩) P.length cap] ∧ wr.ownsRow B 210 2 (Value.slice (some ⟨rb, 0, none⟩) P.length cap) P.length (rowCells P lf) ∧ Below B w wr)
            clear hq hT hM hPl hh ho hBe hu hub hb hi hix hmem hatE
            go_wp2_with fail
            go_region
            have HH2 := hid ((HK.out.2.2.2.2.1.far (p := ⟨rb, ix * 2 + b, none⟩) (show tb ≠ rb from fun e => hrt e.symm) (.int .i64 len)).drew)
            have HO2 : Hid ((wr.setCell ⟨rb, ix * 2 + b, none⟩ (.int .i64 len)).drew.ownsRow B 210 2 (Value.slice (some ⟨rb, 0, none⟩) P.length cap) P.length ((rowCells P lf).set (ix * 2 + b) (.int .i64 len))) := hid ((Bw.drewN (Bw.refl _) 1).own (ownp_set HK.out.2.2.2.2.2.1 (ix * 2 + b) (.int .i64 len)))
            have HB2 : Hid (Below B w (wr.setCell ⟨rb, ix * 2 + b, none⟩ (.int .i64 len)).drew) := hid (below_drewN (Below.setCell HK.out.2.2.2.2.2.2 (p := ⟨rb, ix * 2 + b, none⟩) (own_ge HK.out.2.2.2.2.2.1 (b := rb) rfl) (.int .i64 len)) 1)
            rw [HK.out.2.2.2.1] at HO2 HH2
            generalize (wr.setCell ⟨rb, ix * 2 + b, none⟩ (.int .i64 len)).drew = W2 at *
            have c2 := HH2.out.cell 0
            have HG := hid (tree_grow HK.out.2.1 L u b hb2 (HKm.out) HK.out.1 hlq)
            have HXJ := hid (show ((rowCells P lf).set (ix * 2 + b) (.int .i64 (len : Int)) ++ [.int .i64 0, .int .i64 0])[ix * 2 + b]? = some (.int .i64 (len : Int)) from by rw [List.getElem?_append_left (by rw [List.length_set, rowCells_len, HK.out.2.2.2.1]; omega), List.getElem?_set_self (by rw [rowCells_len, HK.out.2.2.2.1]; omega)])
            have hati5 : (ix : Int) < len + 1 := by omega
            have hB2 : B ≤ W2.heap.size := by have := HB2.out.size; omega
            go_wp2_with (at_builtin; refine wpList_append_own_at _ rfl (.tmp 64) (.tmp 66) 202 rfl B 210 i0 (.agg #[.int .i64 0, .int .i64 0]) 2 16 Tryz.underlying202 hinf hz0 hz1 hz2 rfl (by decide) (.slice (some ⟨rb, 0, none⟩) len cap) len ((rowCells P lf).set (ix * 2 + b) (.int .i64 len)) rfl (HO2.out.alloc _) ⟨W2.heap.size, 0, none⟩ 1 1 [.int .i64 0, .int .i64 0] rfl rfl (own_two _ _ _ _) (by intro u hu; simp at hu; subst hu; rfl) (by unfold maxLen; omega) (by omega) (by simp only [World.size_alloc]; omega) ?_; intro v' w5 hown5 hgrow5 _ _; obtain ⟨rb5, cap5, rfl⟩ := own_some hown5 (by omega); have HO5 := hid hown5; have HG5 := hid hgrow5; have h5 := has_grown (HH2.out.alloc _) hgrow5 (own_ne_has HO2.out HH2.out (by decide)); have H5 := hid h5; have c5 : w5.cell? ⟨tb, 0, none⟩ = some (.slice (some ⟨rb, 0, none⟩) len cap) := h5.cell 0; have f5 := h5.frozen 0; have hne5 : rb5 ≠ tb := fun e => own_ne_has hown5 h5 (by decide) (by rw [e]; rfl); have HF5 := hid (own_far hown5 (p := ⟨tb, 0, none⟩) (fun e => hne5 (by injection e)) (.slice (some ⟨rb5, 0, none⟩) (len + 1) cap5)); have y5 := ownp_cell HF5.out HXJ.out; have hcap5 := ownp_cap hown5; clear hown5 hgrow5 h5)
            go_roundw
            case rel =>
              have HX := hid (show n - 1 - (L + 1) = i - 1 by have := HI.out; omega)
              have HU := hid (show c / 2 ^ (n - (L + 1)) = 2 * u + b by rw [show n - (L + 1) = i by have := HI.out; omega]; exact HUB.out)
              have hlenP : (P ++ [(L + 1, 2 * u + b)]).length = len + 1 := by rw [List.length_append, HK.out.2.2.2.1]; rfl
              refine ⟨L + 1, P ++ [(L + 1, 2 * u + b)], hlt, congrArg (Value.int .i64) (by rw [HX.out]; omega), ?_, ?_, tree_grow_ok HK.out.2.1 L u b hb2 HKm.out HK.out.1, ?_, by rw [hlenP]; omega, ⟨_, by simpa using H5.out.put 0 (.slice (some ⟨rb5, 0, none⟩) (len + 1) cap5), ?_⟩, Below.setCell (Below.trans (Below.alloc HB2.out hB2 _) (own_grownJ HO2.out HG5.out (by simp only [World.size_alloc]; omega))) hB _⟩
              · rw [HU.out, List.idxOf_append, if_neg HK.out.1, HK.out.2.2.2.1]; simp
              · rw [HU.out]; simp
              · rw [← HU.out]; exact way_new HK.out.2.2.1
              · have hg := HG.out
                rw [HKi.out, HK.out.2.2.2.1, show 2 * ix + b = ix * 2 + b by omega] at hg
                rw [hlenP, ← hg]
                exact HF5.out
            case measure => simp [intOf]; omega
        · obtain rfl : n = L + 1 := by omega
          obtain rfl : i = 0 := by omega
          have hb2i : (b : Int) < 2 := by omega
          have hati : (ix : Int) < len := by omega
          have f1 := ownp_frozen ho (ix * 2 + b)
          have hbe : bits .and .i64 (c : Int) 1 = (b : Int) := by
            have := hbi
            simpa using this
          have hnot := not_i64 sym (by omega)
          have hcu : c = 2 * u + b := by simpa using hub
          have HKt := hid (tree_leaf hT L u b hb2 hmem sym)
          have HKo := hid (tree_leaf_ok hT L (2 * u + b) (by rw [show (2 * u + b) / 2 = u by omega]; exact hmem) sym)
          have HK := hid (⟨hT, hM, hPl, hh, ho, hBe⟩ : TreeOk P lf ∧ (∀ p, p ∈ P ↔ p ∈ ([] : List Path) ∨ (p.1 ≤ L ∧ p.2 = c / 2 ^ (L + 1 - p.1))) ∧ P.length = len ∧ Has wr tb 204 #[Value.slice (some ⟨rb, 0, none⟩) P.length cap] ∧ wr.ownsRow B 210 2 (Value.slice (some ⟨rb, 0, none⟩) P.length cap) P.length (rowCells P lf) ∧ Below B w wr)
          have HIX := hid hix
          have HCU := hid hcu
          clear hT hM hPl hh ho hBe hu hub hb hmem hatE hbi hix hcu
          go_wp2
          go_returns
          refine ⟨rfl, P, ?_, fun p => (HK.out.2.1 p).trans ?_, by rw [HK.out.2.2.1]; first | omega | (have hz : ([] : List Path).length = 0 := rfl; omega), ⟨_, HK.out.2.2.2.1.far (p := ⟨rb, ix * 2 + b, none⟩) (show tb ≠ rb from fun e => hrt e.symm) _, ?_⟩, Below.setCell HK.out.2.2.2.2.2 (p := ⟨rb, ix * 2 + b, none⟩) (own_ge HK.out.2.2.2.2.1 (b := rb) rfl) _⟩
          · rw [HCU.out]; exact HKo.out
          · have e : p.1 ≤ L ↔ p.1 < L + 1 := by omega
            rw [e]
          · have hs := ownp_set HK.out.2.2.2.2.1 (ix * 2 + b) (.int .i64 (-((sym : Int) + 1)))
            have hg := HKt.out
            rw [HIX.out, show 2 * ix + b = ix * 2 + b by omega] at hg
            rw [hg] at hs
            rw [HCU.out]
            exact hs
end Go.Proofs.YtkmbgkcpohchhaaGreatDoor
