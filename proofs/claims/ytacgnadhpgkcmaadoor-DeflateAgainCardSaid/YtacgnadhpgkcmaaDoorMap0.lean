import Derived.Test.YtacgnadhpgkcmaaDoorMatK
import Derived.Maps.Own
import Derived.Maps.Views
import Derived.DeepKeys4
import Derived.Test.YtacgnadhpgkcmaaDoorMatL
import Derived.StillTailTactics
import Derived.IntWalk
import Derived.Deep.RegionHeld3
import Derived.Laws.CopyOwn
import Derived.Laws.CopyRow
import Derived.RegionTactic
/- The map of places: its keys (three bytes), its elements (eight numbers), what it holds key by key. -/
namespace Go.Proofs.YtacgnadhpgkcmaaDoor
open Go.RowKit Go.Maps
set_option linter.unusedVariables false
set_option maxRecDepth 100000
theorem laidOutM : laidOutB Tryd.prog = true := by kernel_rfl
theorem keyRow : (100 : TypeId) < Tryd.prog.types.size := of_decide_eq_true (by kernel_rfl)
theorem keyCells : Tryd.prog.cellsOf 100 = 3 := by kernel_rfl
theorem byteCellsOf : Tryd.prog.cellsOf 5 = 1 := by kernel_rfl
theorem keyWide : (match Tryd.prog.underlying 100 with | some (.array _ _) | some (.struct _) => true | _ => false) = true := by rw [Tryd.underlying100]
theorem keyLaw : WideMaps.KeyLaw Tryd.prog 100 := deep_law_laid laidOutM (m := 2) (by omega) keyRow (by kernel_rfl) keyWide
theorem keyed : Keyed Tryd.prog 100 := Keyed.of_law keyLaw
def kl (x y z : UInt8) : Lit := .string [x, y, z]
def keyV (x y z : UInt8) : Value := .agg #[.int .u8 (x.toNat : Nat), .int .u8 (y.toNat : Nat), .int .u8 (z.toNat : Nat)]
theorem typesSize : ∃ m, Tryd.prog.types.size = m + 1 := ⟨_, (Nat.succ_pred_eq_of_pos (Nat.lt_of_le_of_lt (Nat.zero_le _) (show (100 : Nat) < _ from keyRow))).symm⟩
theorem byte_wf (x : UInt8) : (Lit.int .u8 (x.toNat : Nat)).wf = true := by
  have := x.toNat_lt
  simp [Lit.wf, IntKind.min, IntKind.max, IntKind.bits, IntKind.signed]; omega
theorem byte_bytes (x : UInt8) : Lit.keyBytes (.int .u8 (x.toNat : Nat)) = [x] := by
  have h := x.toNat_lt
  have e : (((x.toNat : Nat) : Int) % 2 ^ 8).toNat = x.toNat := by omega
  show bytesBE (8 / 8) (((x.toNat : Nat) : Int) % 2 ^ 8).toNat = [x]
  rw [e]
  show [UInt8.ofNat (x.toNat % 256)] = [x]
  rw [Nat.mod_eq_of_lt h, UInt8.ofNat_toNat]
theorem key_of (x y z : UInt8) : keyOf Tryd.prog 100 (keyV x y z) = some (kl x y z) := by
  obtain ⟨m, hm⟩ := typesSize
  have hk : Tryd.prog.keyType 100 = true := by kernel_rfl
  have hf : (keyV x y z).formed Tryd.prog 100 = true := by simp [keyV, Value.formed, Tryd.underlying100, keyCells]
  unfold keyOf
  rw [Tryd.underlying100]
  simp only [hk, hf, Bool.and_self, if_true, hm]
  simp [keyV, Value.cells, Program.keyLits, Tryd.underlying100, Tryd.underlying5, keyCells, byteCellsOf, byte_wf, List.range, List.range.loop]
  simp [keyBytes, byte_bytes, kl]
theorem kl_ne {x y z a b c : UInt8} (h : ¬ (x = a ∧ y = b ∧ z = c)) : kl a b c ≠ kl x y z := fun e => by
  unfold kl at e
  injection e with e
  simp only [List.cons.injEq, and_true] at e
  exact h ⟨e.1.symm, e.2.1.symm, e.2.2.symm⟩
/-- Eight numbers. -/
def plV (ps : List Int) : Value := .agg (ps.map (Value.int .i64)).toArray
def plD (ps : List Int) : DataW Unit := .agg (ps.map fun p => .lit (.int .i64 p))
def unI : Value → Option Int
  | .int .i64 n => some n
  | _ => none
def plR : Value → Option (DataW Unit × List MemPlace)
  | .agg a => if a.size = 8 then (a.toList.mapM unI).map fun ps => (plD ps, []) else none
  | _ => none
theorem mapM_unI (ps : List Int) : (ps.map (Value.int .i64)).mapM unI = some ps := by
  induction ps with
  | nil => rfl
  | cons p ps ih => rw [List.map_cons, List.mapM_cons, ih]; rfl
theorem mapM_unI_inv : ∀ (l : List Value) (ps : List Int), l.mapM unI = some ps → l = ps.map (Value.int .i64)
  | [], ps, h => by
    have : some [] = some ps := h
    injection this with this
    subst this; rfl
  | v :: l, ps, h => by
    rw [List.mapM_cons] at h
    cases hv : unI v with
    | none => rw [hv] at h; cases h
    | some n =>
      rw [hv] at h
      cases hl : l.mapM unI with
      | none => rw [hl] at h; cases h
      | some qs =>
        rw [hl] at h
        have h2 : some (n :: qs) = some ps := h
        injection h2 with h2
        subst h2
        rw [List.map_cons, ← mapM_unI_inv l qs hl]
        congr 1
        unfold unI at hv
        split at hv
        · injection hv with hv; subst hv; rfl
        · cases hv
theorem plR_mk (ps : List Int) (h : ps.length = 8) : plR (plV ps) = some (plD ps, []) := by
  show (if (ps.map (Value.int .i64)).toArray.size = 8 then _ else none) = _
  rw [if_pos (by simpa using h)]
  show ((ps.map (Value.int .i64)).mapM unI).map _ = _
  rw [mapM_unI]
  rfl
theorem plR_inv {v : Value} {d : DataW Unit} {pl : List MemPlace} (h : plR v = some (d, pl)) : ∃ ps : List Int, ps.length = 8 ∧ v = plV ps ∧ d = plD ps := by
  unfold plR at h
  split at h
  · rename_i a
    split at h
    · rename_i h8
      cases hm : a.toList.mapM unI with
      | none => rw [hm] at h; cases h
      | some ps =>
        rw [hm] at h
        have h2 : some (plD ps, ([] : List MemPlace)) = some (d, pl) := h
        injection h2 with h2
        injection h2 with h3 h4
        have h5 := mapM_unI_inv _ _ hm
        refine ⟨ps, ?_, ?_, h3.symm⟩
        · have : a.toList.length = ps.length := by rw [h5, List.length_map]
          have h6 : a.toList.length = a.size := by simp
          omega
        · unfold plV
          rw [← h5]
    · cases h
  · cases h
theorem plD_inj {ps qs : List Int} (h : plD ps = plD qs) : ps = qs := by
  unfold plD at h
  injection h with h
  have key : ∀ (ps qs : List Int), (ps.map fun p => (DataW.lit (.int .i64 p) : DataW Unit)) = qs.map (fun p => DataW.lit (.int .i64 p)) → ps = qs := by
    intro ps
    induction ps with
    | nil => intro qs h; cases qs with
      | nil => rfl
      | cons q qs => cases h
    | cons p ps ih =>
      intro qs h
      cases qs with
      | nil => cases h
      | cons q qs =>
        rw [List.map_cons, List.map_cons] at h
        injection h with h1 h2
        injection h1 with h1
        injection h1 with _ h1
        rw [h1, ih qs h2]
  exact key ps qs h
def zero8 : List Int := [0, 0, 0, 0, 0, 0, 0, 0]
/-- What the map holds, key by key. -/
abbrev Pl := UInt8 → UInt8 → UInt8 → List Int
def upd (F : Pl) (x y z : UInt8) (ps : List Int) : Pl := fun a b c => if x = a ∧ y = b ∧ z = c then ps else F a b c
def MapAt (w : World) (b n : Nat) (F : Pl) : Prop :=
  ∃ D : DataW Unit, w.ownsMap Tryd.prog 100 plR b n D ∧ IsMap D ∧ ∀ x y z, D.atKey (kl x y z) (plD zero8) = plD (F x y z) ∧ (F x y z).length = 8
theorem zero_pl (w : World) : (zeroValue 98).run Tryd.prog w = .ok (plV zero8) w := by kernel_rfl
theorem MapAt.keep {w w' : World} {b n : Nat} {F : Pl} (h : MapAt w b n F) (hb : w'.heap[b]? = w.heap[b]?) : MapAt w' b n F := by
  obtain ⟨D, ⟨es, c, h1, h2⟩, h3⟩ := h
  exact ⟨D, ⟨es, c, hb.trans h1, h2⟩, h3⟩
theorem MapAt.lt {w : World} {b n : Nat} {F : Pl} (h : MapAt w b n F) : b < w.heap.size := by
  obtain ⟨D, ⟨es, c, h1, _⟩, _⟩ := h
  exact (Array.getElem?_eq_some_iff.1 h1).1
theorem MapAt.bw {w w' : World} {b n : Nat} {F : Pl} (h : MapAt w b n F) (hb : Bw w w') : MapAt w' b n F := h.keep (hb.block b h.lt)
theorem MapAt.mono {w : World} {b n m : Nat} {F : Pl} (h : MapAt w b n F) (hn : n ≤ m) : MapAt w b m F := by
  obtain ⟨D, h1, h3⟩ := h
  exact ⟨D, h1.mono hn, h3⟩
theorem MapAt.made (w : World) : MapAt (w.alloc (.map #[] 0)) w.heap.size 0 (fun _ _ _ => zero8) :=
  ⟨.map [], World.ownsMap_made w _ _ _, ⟨[], rfl⟩, fun x y z => ⟨rfl, rfl⟩⟩
theorem MapAt.look {w : World} {b n : Nat} {F : Pl} (h : MapAt w b n F) (x y z : UInt8) : (Instr.lookup 75 (.map (some b)) (keyV x y z) false).run Tryd.prog w = .ok (plV (F x y z)) w := by
  obtain ⟨D, h1, _, h3⟩ := h
  obtain ⟨v, ps, hr, hv⟩ := h1.lookup keyed Tryd.underlying75 (zero_pl w) (plR_mk zero8 rfl) (key_of x y z)
  obtain ⟨qs, _, rfl, hd⟩ := plR_inv hv
  rw [(h3 x y z).1] at hd
  rw [hr, plD_inj hd]
theorem MapAt.len {w : World} {b n : Nat} {F : Pl} (h : MapAt w b n F) (x y z : UInt8) : (F x y z).length = 8 := by
  obtain ⟨D, h1, _, h3⟩ := h
  exact (h3 x y z).2
theorem MapAt.put {w : World} {b n : Nat} {F : Pl} (h : MapAt w b n F) (hn : n ≤ 1000000) (x y z : UInt8) (ps : List Int) (hps : ps.length = 8) :
    ∃ w', (Instr.mapUpdate 75 (.map (some b)) (keyV x y z) (plV ps)).run Tryd.prog w = .ok () w' ∧ MapAt w' b (n + 1) (upd F x y z ps) ∧ w.grownBy w' (some b) := by
  obtain ⟨D, h1, hm, h3⟩ := h
  obtain ⟨w', hr, h4, h5⟩ := h1.update keyed Tryd.underlying75 (by unfold maxLen; omega) (key_of x y z) (plR_mk ps hps)
  refine ⟨w', hr, ⟨_, h4, ?_, fun a b c => ?_⟩, h5⟩
  · obtain ⟨es, rfl⟩ := hm
    exact ⟨_, rfl⟩
  · unfold upd
    by_cases e : x = a ∧ y = b ∧ z = c
    · obtain ⟨rfl, rfl, rfl⟩ := e
      rw [if_pos ⟨rfl, rfl, rfl⟩]
      exact ⟨atKey_put_same hm (show WideAt.IsKeyLit (.string _) from trivial) _ _, hps⟩
    · rw [if_neg e, atKey_put_other (kl_ne e)]
      exact h3 a b c
end Go.Proofs.YtacgnadhpgkcmaaDoor
/- keyAt, common (contracts of the functions). -/
namespace Go.Proofs.YtacgnadhpgkcmaaDoor
open Go.RowKit
set_option linter.unusedVariables false
/-- A block of three cells, each stored anew. -/
def put3 (w2 : World) (g : Nat) (x y z : Value) : World := ((w2.setCell ⟨g, 0, none⟩ x).setCell ⟨g, 1, none⟩ y).setCell ⟨g, 2, none⟩ z
theorem has_put3 {w2 : World} {g : Nat} {t : TypeId} {a b c : Value} (h : Has w2 g t #[a, b, c]) (x y z : Value) :
    (put3 w2 g x y z).cell? ⟨g, 0, none⟩ = some x ∧ (put3 w2 g x y z).cell? ⟨g, 1, none⟩ = some y ∧ (put3 w2 g x y z).cell? ⟨g, 2, none⟩ = some z := by
  have h2 := ((h.put 0 x).put 1 y).put 2 z
  exact ⟨(h2.cell 0).trans (by simp), (h2.cell 1).trans (by simp), (h2.cell 2).trans (by simp)⟩
theorem put3_bw {w w2 : World} (h : Bw w w2) (x y z : Value) : Bw w (put3 w2 w.heap.size x y z) :=
  Below.setCell (Below.setCell (Below.setCell h (Nat.le_refl _) _) (Nat.le_refl _) _) (Nat.le_refl _) _
set_option maxRecDepth 100000 in
set_option maxHeartbeats 2000000 in
theorem keyAt_any (g : Nat) (s : ByteArray) (hs : s.size ≤ 1000000) (k : Nat) (hk : k + 2 < s.size) (w : World) (hc : w.cell? ⟨g, 0, none⟩ = some (.string s)) :
    Calls Tryd.prog 48 #[.pointer (some ⟨g, 0, none⟩), .int .i64 k] w fun e w' => e = .returned (keyV s[k] (s[k + 1]'(by omega)) (s[k + 2]'hk)) ∧ Bw w w' := by
  have hk0 : (k : Int) < s.size := by omega
  have hk1 : (k : Int) + 1 < s.size := by omega
  have hk2 : (k : Int) + 2 < s.size := by omega
  have hc1 := cell_al1 hc (.cells #[.int .u8 0, .int .u8 0, .int .u8 0] 100)
  have hN : Has (w.alloc (.cells #[.int .u8 0, .int .u8 0, .int .u8 0] 100)) w.heap.size 100 #[.int .u8 0, .int .u8 0, .int .u8 0] := Has.new w _ _
  have HB := hid ((Bw.refl w).alloc (.cells #[.int .u8 0, .int .u8 0, .int .u8 0] 100))
  have HN := hid hN
  clear hc hN
  have e1 : IntKind.i64.wrap ((k : Int) + 1) = (k : Int) + 1 := IntWalk.i64_in _ (by omega)
  have e2 : IntKind.i64.wrap ((k : Int) + 2) = (k : Int) + 2 := IntWalk.i64_in _ (by omega)
  go_enter Tryd.func48, Tryd.ntmps48
  have n1 : (0 : Int) ≤ (k : Int) + 1 := by omega
  have n2 : (0 : Int) ≤ (k : Int) + 2 := by omega
  have t1 : ((k : Int) + 1).toNat = k + 1 := by omega
  have t2 : ((k : Int) + 2).toNat = k + 2 := by omega
  go_wp2_with fail
  generalize w.alloc (.cells #[.int .u8 0, .int .u8 0, .int .u8 0] 100) = W at *
  refine wp_region_still_tail 21 (by kernel_rfl) (by kernel_rfl) ?_
  simp only [List.take_succ_cons, List.take_zero, List.drop_succ_cons, List.drop_zero]
  repeat still_step
  refine wpStill_nil ?_
  change wpList _ _ _ _ _ W.drew
  have HN2 := hid HN.out.drew
  have HB2 := hid (HB.out.drewN 1)
  have HB3 : Hid (Bw w W.drew) := HB2
  generalize W.drew = W2 at *
  have d0 := HN2.out.cell 0
  have d1 := HN2.out.cell 1
  have d2 := HN2.out.cell 2
  have d0 : W2.cell? ⟨w.heap.size, 0, none⟩ = some (.int .u8 0) := d0
  have d1 : W2.cell? ⟨w.heap.size, 1, none⟩ = some (.int .u8 0) := d1
  have d2 : W2.cell? ⟨w.heap.size, 2, none⟩ = some (.int .u8 0) := d2
  have f0 := HN2.out.frozen 0
  have f1 := HN2.out.frozen 1
  have f2 := HN2.out.frozen 2
  have HP3 := hid (has_put3 HN2.out (.int .u8 (s[k].toNat : Nat)) (.int .u8 ((s[k + 1]'(by omega)).toNat : Nat)) (.int .u8 ((s[k + 2]'hk).toNat : Nat)))
  have HB4 := hid (put3_bw HB3.out (.int .u8 (s[k].toNat : Nat)) (.int .u8 ((s[k + 1]'(by omega)).toNat : Nat)) (.int .u8 ((s[k + 2]'hk).toNat : Nat)))
  go_wp2
  obtain ⟨p0, p1, p2⟩ := HP3.out
  unfold put3 at p0 p1 p2 HB4
  generalize World.setCell (World.setCell (World.setCell W2 _ _) _ _) _ _ = W3 at *
  try simp only [Exit.inBlock, Exit.then]
  refine bodyPost_ret (by simp [results, Tryd.results48, go_sem, p0, p1, p2]; try rfl) rfl ?_
  exact ⟨rfl, HB4.out⟩
/-- From two places on, the bytes are the same so far. -/
def Same (s : ByteArray) (a b n : Nat) : Prop := ∀ i, i < n → s.data[a + i]? = s.data[b + i]?
def ComPost (s : ByteArray) (a b most : Nat) (w : World) (e : Ending) (w' : World) : Prop := ∃ n : Nat, e = .returned (.int .i64 n) ∧ n ≤ most ∧ Same s a b n ∧ (n = most ∨ s.data[a + n]? ≠ s.data[b + n]?) ∧ ∃ z, w' = w.drewN z
set_option maxRecDepth 100000 in
set_option maxHeartbeats 2000000 in
theorem common_any (g : Nat) (s : ByteArray) (hs : s.size ≤ 1000000) (a b most : Nat) (hab : a < b) (hb : b ≤ s.size) (hm : most = min (s.size - b) 258) (w : World) (hc : w.cell? ⟨g, 0, none⟩ = some (.string s)) :
    Calls Tryd.prog 49 #[.pointer (some ⟨g, 0, none⟩), .int .i64 a, .int .i64 b] w (ComPost s a b most w) := by
  have hmm : min ((s.size : Int) - b) 258 = most := by omega
  have hms : b + most ≤ s.size ∧ most ≤ 258 := by omega
  obtain ⟨hms1, hms2⟩ := hms
  clear hm
  go_enter Tryd.func49, Tryd.ntmps49
  go_wp2
  clear hmm
  go_loopw [8] (fun i wr => ∃ k : Nat, k ≤ most ∧ i = .int .i64 k ∧ Hid (Same s a b k) ∧ ∃ z, wr = w.drewN z) (fun i _ => most - (intOf i).toNat)
  case atStart => exact ⟨0, Nat.zero_le _, rfl, hid (fun i h => absurd h (Nat.not_lt_zero i)), 0, rfl⟩
  case round =>
    obtain ⟨k, hk, rfl, HS, z, rfl⟩ := hrel
    have hc1 : (w.drewN z).cell? ⟨g, 0, none⟩ = some (.string s) := by simpa using hc
    by_cases hlt : k < most
    · have d1 : decide (k < most) = true := decide_eq_true hlt
      have d1' : decide ((k : Int) < most) = true := decide_eq_true (by omega)
      have ha : a + k < s.size := by omega
      have hb2 : b + k < s.size := by omega
      have e1 : IntKind.i64.wrap ((a : Int) + k) = (a : Int) + k := IntWalk.i64_in _ (by omega)
      have e2 : IntKind.i64.wrap ((b : Int) + k) = (b : Int) + k := IntWalk.i64_in _ (by omega)
      have n1 : (0 : Int) ≤ (a : Int) + k := by omega
      have n2 : (0 : Int) ≤ (b : Int) + k := by omega
      have t1 : ((a : Int) + k).toNat = a + k := by omega
      have t2 : ((b : Int) + k).toNat = b + k := by omega
      have i1 : (a : Int) + k < s.size := by omega
      have i2 : (b : Int) + k < s.size := by omega
      have ga : s.data[a + k]? = some (s[a + k]'ha) := Array.getElem?_eq_getElem ha
      have gb : s.data[b + k]? = some (s[b + k]'hb2) := Array.getElem?_eq_getElem hb2
      have HGA := hid ga
      have HGB := hid gb
      clear ga gb
      have hfin : ∀ n, n ≤ most → Same s a b n → (n = most ∨ s.data[a + n]? ≠ s.data[b + n]?) → ∀ nq, ComPost s a b most w (.returned (.int .i64 n)) ((w.drewN z).drewN nq) := fun n h1 h2 h3 nq => ⟨n, rfl, h1, h2, h3, z + nq, by simp⟩
      have HFIN := hid hfin
      clear hfin
      by_cases heq : s[a + k]'ha = s[b + k]'hb2
      · have HS2 : Hid (Same s a b (k + 1)) := hid fun i hi => by
          rcases Nat.lt_or_ge i k with h | h
          · exact HS.out i h
          · obtain rfl : i = k := by omega
            rw [HGA.out, HGB.out, heq]
        have b1 : (((s[a + k]'ha).toNat : Int) == ((s[b + k]'hb2).toNat : Int)) = true := by rw [heq]; simp
        have b2 : ((s[a + k]'ha).toNat == (s[b + k]'hb2).toNat) = true := by rw [heq]; simp
        clear heq HGA HGB
        go_wp2_with fail
        go_quiet (fail)
        go_wp2
        exact ⟨⟨k + 1, by omega, by go_num, HS2, z + nq, by simp⟩, by simp [intOf]; omega⟩
      · have hne : (s[a + k]'ha).toNat ≠ (s[b + k]'hb2).toNat := fun h => heq (UInt8.toNat_inj.1 h)
        have b1 : (((s[a + k]'ha).toNat : Int) == ((s[b + k]'hb2).toNat : Int)) = false := by simp; omega
        have b2 : ((s[a + k]'ha).toNat == (s[b + k]'hb2).toNat) = false := by simpa using hne
        have hd : s.data[a + k]? ≠ s.data[b + k]? := by
          rw [HGA.out, HGB.out]
          intro h
          injection h with h
          exact heq h
        have HD := hid hd
        clear heq hne hd HGA HGB
        go_wp2_with fail
        go_quiet (fail)
        go_wp2
        go_returns
        exact HFIN.out k hk HS.out (.inr HD.out) nq
    · obtain rfl : k = most := by omega
      have hfin : ∀ n, n ≤ k → Same s a b n → (n = k ∨ s.data[a + n]? ≠ s.data[b + n]?) → ∀ nq, ComPost s a b k w (.returned (.int .i64 n)) ((w.drewN z).drewN nq) := fun n h1 h2 h3 nq => ⟨n, rfl, h1, h2, h3, z + nq, by simp⟩
      have HFIN := hid hfin
      have d1 : decide (k < k) = false := decide_eq_false (Nat.lt_irrefl _)
      have d1' : decide ((k : Int) < k) = false := decide_eq_false (by omega)
      clear hfin
      go_wp2_with fail
      go_quiet (fail)
      go_wp2
      go_returns
      exact HFIN.out k (Nat.le_refl _) HS.out (.inl rfl) nq
end Go.Proofs.YtacgnadhpgkcmaaDoor
/- token, where three bytes are left (contract of the function). -/
namespace Go.Proofs.YtacgnadhpgkcmaaDoor
open Go.RowKit
set_option linter.unusedVariables false
/-- The finder in memory. -/
structure FinAt (w : World) (g mb n : Nat) (s : ByteArray) (F : Pl) : Prop where
  blk : Has w g 77 #[.string s, .map (some mb)]
  map : MapAt w mb n F
theorem FinAt.bw {w w' : World} {g mb n : Nat} {s : ByteArray} {F : Pl} (h : FinAt w g mb n s F) (hb : Bw w w') : FinAt w' g mb n s F := ⟨hb.has h.blk, h.map.bw hb⟩
/-- A place that may be kept for three bytes: none, or one where they stand. -/
def PlOk (s : ByteArray) (k : Nat) (x y z : UInt8) (p : Int) : Prop := p = 0 ∨ ∃ q : Nat, p = (q : Nat) + 1 ∧ q < k ∧ s.data[q]? = some x ∧ s.data[q + 1]? = some y ∧ s.data[q + 2]? = some z
def PlsOk (s : ByteArray) (k : Nat) (F : Pl) : Prop := ∀ x y z, ∀ p ∈ F x y z, PlOk s k x y z p
/-- A token that may follow the first k bytes of a text. -/
def TokAt (s : ByteArray) (k : Nat) (t : TokR) : Prop :=
  (∃ b, s.data[k]? = some b ∧ t = ⟨b.toNat, 0, 0⟩) ∨ ∃ n d : Nat, t = ⟨0, n, d⟩ ∧ 3 ≤ n ∧ n ≤ 258 ∧ k + n ≤ s.size ∧ 1 ≤ d ∧ d ≤ k ∧ d ≤ 32768 ∧ Same s (k - d) k n
/-- It reaches as far as the place at p. -/
def Reach (s : ByteArray) (k : Nat) (p : Int) (t : TokR) : Prop := ∀ q m : Nat, p = (q : Nat) + 1 → q < k → m ≤ min (s.size - k) 258 → Same s q k m → (m : Int) ≤ t.len
theorem index_pl (ps : List Int) (h8 : ps.length = 8) (j : Nat) (hj : j < 8) (w : World) : (Instr.index 98 (plV ps) (.int .i64 j)).run Tryd.prog w = .ok (.int .i64 (ps.getD j 0)) w := by
  have e : (Instr.index 98 (plV ps) (.int .i64 j)).run Tryd.prog w = (part 3 (ps.map (Value.int .i64)).toArray (j * 1)).run Tryd.prog w := by
    have h0 : 0 ≤ (j : Int) ∧ (j : Int) < (8 : Nat) := by omega
    unfold plV
    simp [Instr.index, run_underlying Tryd.underlying98, asIntOf, h0, hj, go_sem]
  rw [e]
  have hg : (ps.map (Value.int .i64)).toArray[j]? = some (.int .i64 (ps.getD j 0)) := by
    simp [List.getD, hj, h8]
  simp [part, hg, go_sem]
theorem has_put3' {w2 : World} {g : Nat} {t : TypeId} {a b c : Value} (h : Has w2 g t #[a, b, c]) (x y z : Value) : Has (put3 w2 g x y z) g t #[x, y, z] := by
  have h2 := ((h.put 0 x).put 1 y).put 2 z
  unfold put3
  simpa using h2
theorem com3 {s : ByteArray} {q k most n : Nat} (h0 : s.data[q]? = s.data[k]?) (h1 : s.data[q + 1]? = s.data[k + 1]?) (h2 : s.data[q + 2]? = s.data[k + 2]?) (hm : 3 ≤ most) (hn : n = most ∨ s.data[q + n]? ≠ s.data[k + n]?) : 3 ≤ n := by
  rcases Nat.lt_or_ge n 3 with h | h
  · have : n = 0 ∨ n = 1 ∨ n = 2 := by omega
    rcases hn with hn | hn
    · omega
    · rcases this with rfl | rfl | rfl
      · exact absurd h0 hn
      · exact absurd h1 hn
      · exact absurd h2 hn
  · exact h
theorem com_max {s : ByteArray} {q k most n m : Nat} (hn : n = most ∨ s.data[q + n]? ≠ s.data[k + n]?) (hm : m ≤ most) (hs : Same s q k m) : m ≤ n := by
  rcases Nat.lt_or_ge n m with h | h
  · rcases hn with hn | hn
    · omega
    · exact absurd (hs n h) hn
  · exact h
theorem put3_far {w2 : World} {g g' : Nat} {t : TypeId} {cs : Array Value} (h : Has w2 g t cs) (hg : g ≠ g') (x y z : Value) : Has (put3 w2 g' x y z) g t cs :=
  ((h.far (p := ⟨g', 0, none⟩) hg x).far (p := ⟨g', 1, none⟩) hg y).far (p := ⟨g', 2, none⟩) hg z
theorem put3_bw' {w w2 : World} (h : Bw w w2) {g : Nat} (hg : w.heap.size ≤ g) (x y z : Value) : Bw w (put3 w2 g x y z) :=
  Below.setCell (Below.setCell (Below.setCell h hg _) hg _) hg _
/-- How many bytes are the same from q and from k on, up to so many. -/
def comGo (s : ByteArray) (q k : Nat) : Nat → Nat → Nat
  | 0, n => n
  | f + 1, n => if s.data[q + n]? = s.data[k + n]? then comGo s q k f (n + 1) else n
def comN (s : ByteArray) (q k : Nat) : Nat := comGo s q k (min (s.size - k) 258) 0
theorem comGo_is (s : ByteArray) (q k m : Nat) (hs : ∀ i, i < m → s.data[q + i]? = s.data[k + i]?) : ∀ f n, n ≤ m → (m = n + f ∨ (m < n + f ∧ s.data[q + m]? ≠ s.data[k + m]?)) → comGo s q k f n = m
  | 0, n, h1, h2 => by
    show n = m
    rcases h2 with h | h <;> omega
  | f + 1, n, h1, h2 => by
    rw [comGo]
    rcases Nat.lt_or_ge n m with h | h
    · rw [if_pos (hs n h)]
      exact comGo_is s q k m hs f (n + 1) (by omega) (by
        rcases h2 with h2 | h2
        · left; omega
        · right; exact ⟨by omega, h2.2⟩)
    · obtain rfl : n = m := by omega
      rcases h2 with h2 | h2
      · omega
      · rw [if_neg h2.2]
theorem comN_is {s : ByteArray} {q k m : Nat} (hm : m ≤ min (s.size - k) 258) (hs : Same s q k m) (hn : m = min (s.size - k) 258 ∨ s.data[q + m]? ≠ s.data[k + m]?) : comN s q k = m := by
  refine comGo_is s q k m hs _ 0 (Nat.zero_le _) ?_
  rcases hn with h | h
  · left; omega
  · rcases Nat.lt_or_ge m (min (s.size - k) 258) with h2 | h2
    · right; exact ⟨by omega, h⟩
    · left; omega
/-- The best of the places left. -/
def bstGo (s : ByteArray) (k : Nat) : List Int → TokR → TokR
  | [], t => t
  | p :: r, t => if p = 0 then t else bstGo s k r (if t.len < (comN s (p.toNat - 1) k : Nat) then ⟨0, (comN s (p.toNat - 1) k : Nat), ((k + 1 - p.toNat : Nat) : Int)⟩ else t)
theorem bstGo_zero {s : ByteArray} {k j : Nat} {ps : List Int} (h8 : ps.length = 8) (hj : j < 8) (h : ps.getD j 0 = 0) (t : TokR) : bstGo s k (ps.drop j) t = t := by
  have hg : ps[j]'(by omega) = 0 := by simpa [List.getD, show j < ps.length by omega] using h
  rw [List.drop_eq_getElem_cons (by omega), bstGo, if_pos hg]
theorem bstGo_next {s : ByteArray} {k j q m : Nat} {ps : List Int} (h8 : ps.length = 8) (hj : j < 8) (h : ps.getD j 0 = ((q : Nat) : Int) + 1) (hm : comN s q k = m) (t : TokR) : bstGo s k (ps.drop j) t = bstGo s k (ps.drop (j + 1)) (if t.len < (m : Nat) then ⟨0, (m : Nat), ((k - q : Nat) : Int)⟩ else t) := by
  have hg : ps[j]'(by omega) = ((q : Nat) : Int) + 1 := by simpa [List.getD, show j < ps.length by omega] using h
  rw [List.drop_eq_getElem_cons (by omega), bstGo, if_neg (by rw [hg]; omega), hg, show (((q : Nat) : Int) + 1).toNat - 1 = q by omega, hm, show k + 1 - (((q : Nat) : Int) + 1).toNat = k - q by omega]
set_option maxRecDepth 100000 in
set_option maxHeartbeats 4000000 in
theorem token_long (g mb n : Nat) (s : ByteArray) (hs : s.size ≤ 20000) (F : Pl) (k : Nat) (hk : k + 2 < s.size) (w : World) (hf : FinAt w g mb n s F) (hF : PlsOk s k F) :
    Calls Tryd.prog 29 #[.pointer (some ⟨g, 0, none⟩), .int .i64 k] w fun e w' => ∃ t : TokR, e = .returned (.agg #[.int .u8 t.lit, .int .i64 t.len, .int .i64 t.dist]) ∧ TokAt s k t ∧ Reach s k ((F s[k] (s[k + 1]'(by omega)) (s[k + 2]'hk)).getD 0 0) t ∧ Bw w w' ∧ t = bstGo s k (F s[k] (s[k + 1]'(by omega)) (s[k + 2]'hk)) ⟨s[k].toNat, 0, 0⟩ := by
  have hc : w.cell? ⟨g, 0, none⟩ = some (.string s) := hf.blk.cell 0
  have hk1 : (k : Int) < s.size := by omega
  have h3 : ¬ ((s.size : Int) - k) < 3 := by omega
  have hc1 := cell_al1 hc
  have hc2 := cell_al2 hc
  have HKD := hid (⟨Array.getElem?_eq_getElem (show k < s.data.size from by show k < s.size; omega), Array.getElem?_eq_getElem (show k + 1 < s.data.size from by show k + 1 < s.size; omega), Array.getElem?_eq_getElem (show k + 2 < s.data.size from hk)⟩ : s.data[k]? = some s[k] ∧ s.data[k + 1]? = some (s[k + 1]'(Nat.lt_of_succ_lt hk)) ∧ s.data[k + 2]? = some (s[k + 2]'hk))
  have HX := hid (show s.data[k]? = some s[k] from Array.getElem?_eq_getElem (show k < s.size by omega))
  have HK := hid (fun (W : World) (h : W.cell? ⟨g, 0, none⟩ = some (.string s)) => keyAt_any g s (by omega) k hk W h)
  have HL := hid (fun (W : World) (h : MapAt W mb n F) => h.look s[k] (s[k + 1]'(by omega)) (s[k + 2]'hk))
  have hlen := hf.map.len s[k] (s[k + 1]'(by omega)) (s[k + 2]'hk)
  have HPO := hid (hF s[k] (s[k + 1]'(by omega)) (s[k + 2]'hk))
  have HF := hid hf
  generalize F s[k] (s[k + 1]'(by omega)) (s[k + 2]'hk) = ps at *
  generalize keyV s[k] (s[k + 1]'(by omega)) (s[k + 2]'hk) = kv at *
  have HLEN := hid hlen
  clear hc hlen hf hF
  go_enter Tryd.func29, Tryd.ntmps29
  go_wp2_with fail
  have HB0 := hid (((Bw.refl w).alloc (.cells #[.int .u8 0, .int .i64 0, .int .i64 0] 30)).alloc (.cells #[.int .u8 (s[k].toNat : Nat), .int .i64 0, .int .i64 0] 30))
  have HZ0 := hid ((Has.new w 30 #[.int .u8 0, .int .i64 0, .int .i64 0]).alloc (.cells #[.int .u8 (s[k].toNat : Nat), .int .i64 0, .int .i64 0] 30))
  have hz1 := Has.new (w.alloc (.cells #[.int .u8 0, .int .i64 0, .int .i64 0] 30)) 30 #[.int .u8 (s[k].toNat : Nat), .int .i64 0, .int .i64 0]
  rw [World.size_alloc] at hz1
  have HZ1 := hid hz1
  clear hc1 hc2 hz1
  generalize (w.alloc (.cells #[.int .u8 0, .int .i64 0, .int .i64 0] 30)).alloc (.cells #[.int .u8 (s[k].toNat : Nat), .int .i64 0, .int .i64 0] 30) = W0 at *
  have HB1 : Hid (Bw w W0.drew) := hid (HB0.out.drewN 1)
  have HF1 := hid (HF.out.bw HB1.out)
  have p0 : W0.drew.cell? ⟨g, 0, none⟩ = some (.string s) := HF1.out.blk.cell 0
  have p1 : W0.drew.cell? ⟨g, 1, none⟩ = some (.map (some mb)) := HF1.out.blk.cell 1
  have pl := HL.out _ HF1.out.map
  have HZ0' : Hid (Has W0.drew w.heap.size 30 #[.int .u8 0, .int .i64 0, .int .i64 0]) := hid HZ0.out.drew
  have HZ1' : Hid (Has W0.drew (w.heap.size + 1) 30 #[.int .u8 (s[k].toNat : Nat), .int .i64 0, .int .i64 0]) := hid HZ1.out.drew
  go_region_held3 (fun w' => w'.cell? ⟨g, 1, none⟩ = some (.map (some mb)) ∧ (Instr.lookup 75 (.map (some mb)) kv false).run Tryd.prog w' = .ok (plV ps) w') (first | exact ⟨p1, pl⟩ | exact ⟨q1, ql⟩ | exact ⟨by assumption, by assumption⟩)
    (first
      | (go_at_call 48; refine (HK.out _ p0).mono ?_; rintro e w2 ⟨rfl, hb2⟩; have HB2 := hid (HB1.out.trans hb2); have HZ02 := hid (hb2.has HZ0'.out); have HZ12 := hid (hb2.has HZ1'.out); have HF2 := hid (HF1.out.bw hb2); have q1 : w2.cell? ⟨g, 1, none⟩ = some (.map (some mb)) := HF2.out.blk.cell 1; have ql := HL.out _ HF2.out.map; clear hb2))
  clear p0 p1 pl q1 ql
  go_wp2
  go_loopw [34] (fun i wr => ∃ j : Nat, ∃ t : TokR, j ≤ 8 ∧ i = .int .i64 j ∧ Hid (TokAt s k t ∧ bstGo s k (ps.drop j) t = bstGo s k ps ⟨s[k].toNat, 0, 0⟩) ∧ Hid (1 ≤ j → Reach s k (ps.getD 0 0) t) ∧ Has wr w.heap.size 30 #[.int .u8 0, .int .i64 0, .int .i64 0] ∧ Has wr (w.heap.size + 1) 30 #[.int .u8 t.lit, .int .i64 t.len, .int .i64 t.dist] ∧ Bw w wr) (fun i _ => 8 - (intOf i).toNat)
  case atStart => exact ⟨0, ⟨s[k].toNat, 0, 0⟩, Nat.zero_le _, rfl, hid ⟨.inl ⟨s[k], HX.out, rfl⟩, by rw [List.drop_zero]⟩, hid (fun h => absurd h (by omega)), HZ02.out, HZ12.out, HB2.out⟩
  case round =>
    rename World => wr
    obtain ⟨j, t, hj, rfl, HT, HR, h0, h1, hb⟩ := hrel
    obtain ⟨x0, x1, x2⟩ := t
    have H0 := hid h0
    have H1 := hid h1
    have HB := hid hb
    clear h0 h1 hb
    by_cases hlt : j < 8
    · have hj8 : (j : Int) < 8 := by omega
      have hix := index_pl ps HLEN.out j hlt wr
      have hmem : ps.getD j 0 ∈ ps := by
        rw [List.getD_eq_getElem?_getD, List.getElem?_eq_getElem (by rw [HLEN.out]; exact hlt)]
        exact List.getElem_mem _
      have hpo := HPO.out _ hmem
      have HR0 := hid (fun (h : j = 0) => (show ps.getD 0 0 = ps.getD j 0 by rw [h]))
      have HBZ := hid (fun (h : ps.getD j 0 = 0) t => bstGo_zero (s := s) (k := k) HLEN.out hlt h t)
      have HBN := hid (fun (q m : Nat) (h : ps.getD j 0 = ((q : Nat) : Int) + 1) (hm : comN s q k = m) t => bstGo_next (s := s) (k := k) HLEN.out hlt h hm t)
      generalize hP : ps.getD j 0 = P at *
      rcases hpo with rfl | ⟨q, rfl, hqk, hq0, hq1, hq2⟩
      · have hRR : Reach s k (ps.getD 0 0) ⟨x0, x1, x2⟩ := by
          by_cases h : 1 ≤ j
          · exact HR.out h
          · rw [HR0.out (by omega)]
            intro q m e
            omega
        have HRR := hid hRR
        have HEQT := hid ((HBZ.out rfl _).symm.trans HT.out.2)
        clear hRR hP hmem HR0
        have HP3 := hid (has_put3 H0.out (.int .u8 x0) (.int .i64 x1) (.int .i64 x2))
        have HB4 := hid (put3_bw HB.out (.int .u8 x0) (.int .i64 x1) (.int .i64 x2))
        have d0 : wr.cell? ⟨w.heap.size + 1, 0, none⟩ = some (.int .u8 x0) := H1.out.cell 0
        have d1 : wr.cell? ⟨w.heap.size + 1, 1, none⟩ = some (.int .i64 x1) := H1.out.cell 1
        have d2 : wr.cell? ⟨w.heap.size + 1, 2, none⟩ = some (.int .i64 x2) := H1.out.cell 2
        have z0 : wr.cell? ⟨w.heap.size, 0, none⟩ = some (.int .u8 0) := H0.out.cell 0
        have z1 : wr.cell? ⟨w.heap.size, 1, none⟩ = some (.int .i64 0) := H0.out.cell 1
        have z2 : wr.cell? ⟨w.heap.size, 2, none⟩ = some (.int .i64 0) := H0.out.cell 2
        have f0 := H0.out.frozen 0
        have f1 := H0.out.frozen 1
        have f2 := H0.out.frozen 2
        go_wp2
        obtain ⟨r0, r1, r2⟩ := HP3.out
        unfold put3 at r0 r1 r2 HB4
        generalize World.setCell (World.setCell (World.setCell wr _ _) _ _) _ _ = W3 at *
        try simp only [Exit.inBlock, Exit.then]
        refine bodyPost_ret (by simp [results, Tryd.results29, go_sem, r0, r1, r2]; try rfl) rfl ?_
        exact ⟨⟨x0, x1, x2⟩, rfl, HT.out.1, HRR.out, HB4.out, HEQT.out⟩
      · have HDAT := hid (⟨hq0, hq1, hq2⟩ : s.data[q]? = some s[k] ∧ s.data[q + 1]? = some (s[k + 1]'(Nat.lt_of_succ_lt hk)) ∧ s.data[q + 2]? = some (s[k + 2]'hk))
        obtain ⟨p, hp⟩ : ∃ p, q + 1 = p := ⟨_, rfl⟩
        have HBQ := hid (fun (m : Nat) (hm : comN s q k = m) t => HBN.out q m rfl hm t)
        have hpe : ((q : Int) + 1) = (p : Nat) := by omega
        rw [hpe] at hix
        obtain ⟨d, hd⟩ : ∃ d, k - q = d := ⟨_, rfl⟩
        have e1 : (k : Int) + 1 - (p : Nat) = (d : Nat) := by omega
        have e2 : ((p : Nat) : Int) - 1 = (q : Nat) := by omega
        have tp : ((p : Int) == 0) = false := by simp; omega
        have td : ¬ (32768 : Int) < d := by omega
        obtain ⟨most, hmost⟩ : ∃ m, m = min (s.size - k) 258 := ⟨_, rfl⟩
        have HC := hid (fun (W : World) (h : W.cell? ⟨g, 0, none⟩ = some (.string s)) => common_any g s (by omega) q k most hqk (by omega) hmost W h)
        have hg0 : wr.cell? ⟨g, 0, none⟩ = some (.string s) := (HF.out.bw HB.out).blk.cell 0
        have HMOST := hid hmost
        have HPP := hid (show k - q = d ∧ 3 ≤ most ∧ most ≤ 258 ∧ k + most ≤ s.size ∧ q < k ∧ d ≤ 32768 from by omega)
        clear hmost hq0 hq1 hq2 hd hp hpe hmem hP
        go_wp2_with fail
        refine (HC.out _ hg0).mono ?_
        rintro e w3 ⟨m, rfl, hmm, hsame, hmax, z, hz⟩
        have hm3 : 3 ≤ m := com3 (HDAT.out.1.trans HKD.out.1.symm) (HDAT.out.2.1.trans HKD.out.2.1.symm) (HDAT.out.2.2.trans HKD.out.2.2.symm) HPP.out.2.1 hmax
        have HB3 : Hid (Bw w w3) := by subst hz; exact hid (HB.out.drewN z)
        have HE3 : Hid (Has w3 w.heap.size 30 #[.int .u8 0, .int .i64 0, .int .i64 0]) := by subst hz; exact hid (H0.out.drewN z)
        have HG3 : Hid (Has w3 (w.heap.size + 1) 30 #[.int .u8 x0, .int .i64 x1, .int .i64 x2]) := by subst hz; exact hid (H1.out.drewN z)
        have HMX := hid hmax
        have HSM := hid hsame
        have HCN := hid (show comN s q k = m from comN_is (by rw [← HMOST.out]; exact hmm) hsame (by rw [← HMOST.out]; exact hmax))
        have HBX := hid (HBQ.out m HCN.out)
        have d0 : w3.cell? ⟨w.heap.size + 1, 0, none⟩ = some (.int .u8 x0) := HG3.out.cell 0
        have d1 : w3.cell? ⟨w.heap.size + 1, 1, none⟩ = some (.int .i64 x1) := HG3.out.cell 1
        have d2 : w3.cell? ⟨w.heap.size + 1, 2, none⟩ = some (.int .i64 x2) := HG3.out.cell 2
        have f0 := HG3.out.frozen 0
        have f1 := HG3.out.frozen 1
        have f2 := HG3.out.frozen 2
        have HEQ := hid e1
        clear hz hsame hmax hg0 hix e1 e2 tp td
        by_cases hgt : x1 < m
        · have HT2 : Hid (TokAt s k ⟨0, m, d⟩ ∧ bstGo s k (ps.drop (j + 1)) ⟨0, m, d⟩ = bstGo s k ps ⟨s[k].toNat, 0, 0⟩) := hid ⟨.inr ⟨m, d, rfl, hm3, by have := HPP.out; omega, by have := HPP.out; omega, by have := HPP.out; omega, by have := HPP.out; omega, by have := HPP.out; omega, by
            have e : k - d = q := by have := HPP.out; omega
            rw [e]; exact HSM.out⟩, by
            have h := HBX.out ⟨x0, x1, x2⟩
            rw [if_pos hgt, HPP.out.1] at h
            exact h.symm.trans HT.out.2⟩
          have HR2 : Hid (1 ≤ j + 1 → Reach s k (ps.getD 0 0) ⟨0, m, d⟩) := hid fun _ => by
            by_cases h : 1 ≤ j
            · intro q' m' a b c e
              have := HR.out h q' m' a b c e
              show (m' : Int) ≤ (m : Int)
              have h2 : (m' : Int) ≤ x1 := this
              omega
            · rw [HR0.out (by omega)]
              intro q' m' a b c e
              have hq : q' = q := by omega
              subst hq
              have := com_max HMX.out (by rw [HMOST.out]; exact c) e
              show (m' : Int) ≤ (m : Int)
              omega
          have HN := hid (has_put3' HG3.out (.int .u8 0) (.int .i64 m) (.int .i64 d))
          have HN0 := hid (put3_far HE3.out (show w.heap.size ≠ w.heap.size + 1 by omega) (.int .u8 0) (.int .i64 m) (.int .i64 d))
          have HNB := hid (put3_bw' HB3.out (show w.heap.size ≤ w.heap.size + 1 by omega) (.int .u8 0) (.int .i64 m) (.int .i64 d))
          clear HR HT
          go_wp2
          exact ⟨⟨j + 1, ⟨0, m, d⟩, by omega, by go_num, HT2, HR2, HN0.out, HN.out, HNB.out⟩, by simp [intOf]; omega⟩
        · have HR2 : Hid (1 ≤ j + 1 → Reach s k (ps.getD 0 0) ⟨x0, x1, x2⟩) := hid fun _ => by
            by_cases h : 1 ≤ j
            · exact HR.out h
            · rw [HR0.out (by omega)]
              intro q' m' a b c e
              have hq : q' = q := by omega
              subst hq
              have := com_max HMX.out (by rw [HMOST.out]; exact c) e
              show (m' : Int) ≤ x1
              omega
          have HT2 := hid (⟨HT.out.1, by
            have h := HBX.out ⟨x0, x1, x2⟩
            rw [if_neg hgt] at h
            exact h.symm.trans HT.out.2⟩ : TokAt s k ⟨x0, x1, x2⟩ ∧ bstGo s k (ps.drop (j + 1)) ⟨x0, x1, x2⟩ = bstGo s k ps ⟨s[k].toNat, 0, 0⟩)
          clear HR
          go_wp2
          exact ⟨⟨j + 1, ⟨x0, x1, x2⟩, by omega, by go_num, HT2, HR2, HE3.out, HG3.out, HB3.out⟩, by simp [intOf]; omega⟩
    · obtain rfl : j = 8 := by omega
      have HP3 := hid (has_put3 H0.out (.int .u8 x0) (.int .i64 x1) (.int .i64 x2))
      have HB4 := hid (put3_bw HB.out (.int .u8 x0) (.int .i64 x1) (.int .i64 x2))
      have d0 : wr.cell? ⟨w.heap.size + 1, 0, none⟩ = some (.int .u8 x0) := H1.out.cell 0
      have d1 : wr.cell? ⟨w.heap.size + 1, 1, none⟩ = some (.int .i64 x1) := H1.out.cell 1
      have d2 : wr.cell? ⟨w.heap.size + 1, 2, none⟩ = some (.int .i64 x2) := H1.out.cell 2
      have z0 : wr.cell? ⟨w.heap.size, 0, none⟩ = some (.int .u8 0) := H0.out.cell 0
      have z1 : wr.cell? ⟨w.heap.size, 1, none⟩ = some (.int .i64 0) := H0.out.cell 1
      have z2 : wr.cell? ⟨w.heap.size, 2, none⟩ = some (.int .i64 0) := H0.out.cell 2
      have f0 := H0.out.frozen 0
      have f1 := H0.out.frozen 1
      have f2 := H0.out.frozen 2
      go_wp2
      obtain ⟨r0, r1, r2⟩ := HP3.out
      unfold put3 at r0 r1 r2 HB4
      generalize World.setCell (World.setCell (World.setCell wr _ _) _ _) _ _ = W3 at *
      try simp only [Exit.inBlock, Exit.then]
      refine bodyPost_ret (by simp [results, Tryd.results29, go_sem, r0, r1, r2]; try rfl) rfl ?_
      exact ⟨⟨x0, x1, x2⟩, rfl, HT.out.1, (HR.out (by omega)), HB4.out, by have h := HT.out.2; rw [List.drop_of_length_le (by rw [HLEN.out]; exact Nat.le_refl _)] at h; exact h⟩
end Go.Proofs.YtacgnadhpgkcmaaDoor
/- Plain: what is found so far, and what one token more does to it. -/
namespace Go.Proofs.YtacgnadhpgkcmaaDoor
open Go.RowKit
set_option linter.unusedVariables false
def shiftP (ps : List Int) (v : Int) : List Int := v :: ps.take 7
def AllB (s : ByteArray) (b : UInt8) : Prop := ∀ i, i < s.size → s.data[i]? = some b
/-- A text's byte. -/
def sB (s : ByteArray) (i : Nat) : UInt8 := (s.data[i]?).getD 0
/-- The places kept for the first k bytes. -/
def Fk (s : ByteArray) : Nat → Pl
  | 0 => fun _ _ _ => zero8
  | k + 1 => if k + 2 < s.size then upd (Fk s k) (sB s k) (sB s (k + 1)) (sB s (k + 2)) (shiftP (Fk s k (sB s k) (sB s (k + 1)) (sB s (k + 2))) (k + 1)) else Fk s k
/-- The token at k. -/
def tokF (s : ByteArray) (k : Nat) : TokR := if k + 2 < s.size then bstGo s k (Fk s k (sB s k) (sB s (k + 1)) (sB s (k + 2))) ⟨(sB s k).toNat, 0, 0⟩ else ⟨(sB s k).toNat, 0, 0⟩
def KInv (s : ByteArray) (k : Nat) (F : Pl) : Prop := PlsOk s k F ∧ (∀ b, AllB s b → 1 ≤ k → k + 1 < s.size → (F b b b).getD 0 0 = (k : Int)) ∧ F = Fk s k
theorem PlOk.mono {s : ByteArray} {k m : Nat} {x y z : UInt8} {p : Int} (h : PlOk s k x y z p) (hm : k ≤ m) : PlOk s m x y z p := by
  rcases h with h | ⟨q, h1, h2, h3⟩
  · exact .inl h
  · exact .inr ⟨q, h1, by omega, h3⟩
theorem KInv.start (s : ByteArray) : KInv s 0 (fun _ _ _ => zero8) :=
  ⟨fun x y z p hp => .inl (by simp [zero8] at hp; exact hp), fun b _ h => absurd h (by omega), rfl⟩
theorem KInv.short {s : ByteArray} {k : Nat} {F : Pl} (h : KInv s k F) (hk : s.size < k + 3) : KInv s (k + 1) F :=
  ⟨fun x y z p hp => (h.1 x y z p hp).mono (by omega), fun b _ _ h2 => absurd h2 (by omega), by rw [Fk, if_neg (by omega)]; exact h.2.2⟩
theorem KInv.long {s : ByteArray} {k : Nat} {F : Pl} (h : KInv s k F) (hk : k + 2 < s.size) {x y z : UInt8} (hx : s.data[k]? = some x) (hy : s.data[k + 1]? = some y) (hz : s.data[k + 2]? = some z) : KInv s (k + 1) (upd F x y z (shiftP (F x y z) (k + 1))) := by
  refine ⟨fun a b c p hp => ?_, fun b hb _ _ => ?_, by
    have ex : sB s k = x := by unfold sB; rw [hx]; rfl
    have ey : sB s (k + 1) = y := by unfold sB; rw [hy]; rfl
    have ez : sB s (k + 2) = z := by unfold sB; rw [hz]; rfl
    rw [Fk, if_pos hk, ex, ey, ez, ← h.2.2]⟩
  · unfold upd at hp
    by_cases e : x = a ∧ y = b ∧ z = c
    · rw [if_pos e] at hp
      obtain ⟨rfl, rfl, rfl⟩ := e
      rcases List.mem_cons.1 hp with rfl | hp
      · exact .inr ⟨k, rfl, by omega, hx, hy, hz⟩
      · exact (h.1 x y z p (List.mem_of_mem_take hp)).mono (by omega)
    · rw [if_neg e] at hp
      exact (h.1 a b c p hp).mono (by omega)
  · have ex : x = b := by have := hb k (by omega); rw [hx] at this; injection this
    have ey : y = b := by have := hb (k + 1) (by omega); rw [hy] at this; injection this
    have ez : z = b := by have := hb (k + 2) (by omega); rw [hz] at this; injection this
    subst ex; subst ey; subst ez
    unfold upd
    rw [if_pos ⟨rfl, rfl, rfl⟩]
    show ((k : Int) + 1) = ((k + 1 : Nat) : Int)
    omega
/-- All tokens from k on, behind these. -/
def findGo (s : ByteArray) : Nat → Nat → List TokR → List TokR
  | 0, _, l => l
  | f + 1, k, l => if k < s.size then findGo s f (k + max 1 (tokF s k).len.toNat) (l ++ [tokF s k]) else l
def findL (s : ByteArray) : List TokR := findGo s s.size 0 []
theorem findGo_fuel (s : ByteArray) : ∀ f g k l, s.size - k ≤ f → s.size - k ≤ g → findGo s f k l = findGo s g k l
  | 0, 0, k, l, _, _ => rfl
  | 0, g + 1, k, l, h, _ => by
    rw [findGo, findGo, if_neg (by omega)]
  | f + 1, 0, k, l, _, h => by
    rw [findGo, findGo, if_neg (by omega)]
  | f + 1, g + 1, k, l, h1, h2 => by
    rw [findGo, findGo]
    split
    · exact findGo_fuel s f g _ _ (by omega) (by omega)
    · rfl
/-- The tokens for the first k bytes. -/
structure FInv (s : ByteArray) (k : Nat) (l : List TokR) : Prop where
  lit : ∀ o ∈ l, o.lit < 256
  exp : expGo s.size l [] = (0, s.data.toList.take k)
  len : l.length ≤ k
  runs : ∀ b, AllB s b → 258 * l.length ≤ k + 257 + 258 * (k + 2 - s.size)
  find : ∀ f, s.size - k ≤ f → findGo s f k l = findL s
theorem FInv.start (s : ByteArray) : FInv s 0 [] := ⟨by simp, by simp [expGo], Nat.le_refl _, fun b _ => by simp, fun f hf => findGo_fuel s f s.size 0 [] hf (by omega)⟩
theorem expGo_app {limit : Int} : ∀ (a b : List TokR) (out res : List UInt8), expGo limit a out = (0, res) → expGo limit (a ++ b) out = expGo limit b res
  | [], b, out, res, h => by
    have : out = res := by simpa [expGo] using h
    rw [this]; rfl
  | t :: a, b, out, res, h => by
    rw [List.cons_append]
    rw [expGo] at h ⊢
    by_cases e : tokE t out.length limit = 0
    · rw [if_pos e] at h ⊢
      exact expGo_app a b _ res h
    · rw [if_neg e] at h
      have h1 : tokE t out.length limit = 0 := by injection h
      exact absurd h1 e
theorem list_get {s : ByteArray} {i : Nat} {b : UInt8} (h : s.data[i]? = some b) : s.data.toList[i]? = some b := by simpa using h
theorem take_snoc' {s : ByteArray} {k : Nat} {b : UInt8} (h : s.data[k]? = some b) : s.data.toList.take (k + 1) = s.data.toList.take k ++ [b] := by
  have h2 := list_get h
  rw [List.take_add_one, h2]
  rfl
theorem take_len (s : ByteArray) {k : Nat} (h : k ≤ s.size) : (s.data.toList.take k).length = k := by
  rw [List.length_take]
  have : s.data.toList.length = s.size := by simp
  omega
theorem rep_take {s : ByteArray} {k d n : Nat} (hd : 1 ≤ d) (hdk : d ≤ k) (hn : k + n ≤ s.size) (hs : Same s (k - d) k n) : ∀ j, j ≤ n → rep (s.data.toList.take k) d j = s.data.toList.take (k + j)
  | 0, _ => rfl
  | j + 1, hj => by
    rw [rep, rep_take hd hdk hn hs j (by omega), rep1, take_len s (by omega)]
    have hlt : k + j < s.size := by omega
    have hb : s.data[k + j]? = some s[k + j] := Array.getElem?_eq_getElem hlt
    have h1 := hs j (by omega)
    rw [hb] at h1
    have h2 := list_get h1
    have e : (s.data.toList.take (k + j)).getD (k + j - d) 0 = s[k + j] := by
      rw [List.getD_eq_getElem?_getD, List.getElem?_take, if_pos (by omega), show k + j - d = k - d + j by omega, h2]
      rfl
    rw [e, ← Nat.add_assoc, take_snoc' hb]
def tlen (t : TokR) : Nat := max 1 t.len.toNat
theorem TokAt.facts {s : ByteArray} {k : Nat} {t : TokR} (h : TokAt s k t) (hk : k < s.size) : tokE t k s.size = 0 ∧ tokX t (s.data.toList.take k) = s.data.toList.take (k + tlen t) ∧ t.lit < 256 ∧ k + tlen t ≤ s.size ∧ 0 ≤ t.len ∧ t.len ≤ 258 ∧ (t.len = 0 ∨ 3 ≤ t.len) := by
  rcases h with ⟨b, hb, rfl⟩ | ⟨n, d, rfl, h1, h2, h3, h4, h5, h6, h7⟩
  · refine ⟨?_, ?_, b.toNat_lt, ?_, ?_, ?_, .inl rfl⟩
    · show (if isB ⟨b.toNat, 0, 0⟩ then (if (s.size : Int) - k < 1 then 11 else 0) else _) = (0 : Int)
      rw [show isB ⟨b.toNat, 0, 0⟩ = true from rfl, if_pos rfl, if_neg (by omega)]
    · show (if isB ⟨b.toNat, 0, 0⟩ then s.data.toList.take k ++ [UInt8.ofNat b.toNat] else _) = s.data.toList.take (k + 1)
      rw [show isB ⟨b.toNat, 0, 0⟩ = true from rfl, if_pos rfl, take_snoc' hb, UInt8.ofNat_toNat]
    · show k + 1 ≤ s.size; omega
    · show (0 : Int) ≤ 0; omega
    · show (0 : Int) ≤ 258; omega
  · have hb : isB ⟨0, n, d⟩ = false := by unfold isB; simp; omega
    have hm : isM ⟨0, n, d⟩ = true := isM_iff.2 ⟨by show (1 : Int) ≤ d; omega, by show (d : Int) ≤ 32768; omega, by show (3 : Int) ≤ n; omega, by show (n : Int) ≤ 258; omega, rfl⟩
    have htl : tlen ⟨0, n, d⟩ = n := by unfold tlen; show max 1 ((n : Int).toNat) = n; omega
    refine ⟨?_, ?_, (show (0 : Nat) < 256 by decide), ?_, ?_, ?_, .inr ?_⟩
    · show (if isB ⟨0, n, d⟩ then _ else if isM ⟨0, n, d⟩ then (if (k : Int) < (d : Int) then 3 else if (s.size : Int) - k < (n : Int) then 11 else 0) else 1) = (0 : Int)
      rw [hb, hm, if_neg (by decide), if_pos rfl, if_neg (by omega), if_neg (by omega)]
    · rw [htl]
      show (if isB ⟨0, n, d⟩ then _ else rep (s.data.toList.take k) (d : Int).toNat (n : Int).toNat) = _
      rw [hb, if_neg (by decide)]
      exact rep_take h4 h5 h3 h7 n (Nat.le_refl _)
    · rw [htl]; exact h3
    · show (0 : Int) ≤ n; omega
    · show (n : Int) ≤ 258; omega
    · show (3 : Int) ≤ n; omega
theorem FInv.step {s : ByteArray} {k : Nat} {l : List TokR} {t : TokR} (h : FInv s k l) (hk : k < s.size) (ht : TokAt s k t) (hr : ∀ b, AllB s b → 1 ≤ k → k + 2 < s.size → (min (s.size - k) 258 : Nat) ≤ t.len.toNat) (htf : t = tokF s k) : FInv s (k + tlen t) (l ++ [t]) := by
  obtain ⟨h1, h2, h3, h4, h5, h6, h7⟩ := ht.facts hk
  have htl : 1 ≤ tlen t := by unfold tlen; omega
  refine ⟨?_, ?_, ?_, ?_, fun f hf => by
    have h := h.find (s.size + f + 1) (by omega)
    rw [findGo, if_pos hk, ← htf] at h
    exact (findGo_fuel s f (s.size + f) (k + tlen t) (l ++ [t]) hf (by omega)).trans h⟩
  · intro o ho
    rcases List.mem_append.1 ho with ho | ho
    · exact h.lit o ho
    · rw [List.mem_singleton] at ho; subst ho; exact h3
  · rw [expGo_app l [t] [] _ h.exp, expGo, take_len s (by omega), if_pos h1, h2]
    rfl
  · rw [List.length_append, List.length_singleton]
    have := h.len
    omega
  · intro b hb
    have h8 := h.runs b hb
    rw [List.length_append, List.length_singleton]
    by_cases hk0 : k = 0
    · subst hk0
      have := h.len
      omega
    · by_cases hk2 : k + 2 < s.size
      · have := hr b hb (by omega) hk2
        have e : tlen t = t.len.toNat := by unfold tlen; omega
        rw [e] at h4 ⊢
        omega
      · omega
theorem FInv.fin {s : ByteArray} {l : List TokR} (h : FInv s s.size l) : l = findL s := by
  have h1 := h.find 0 (by omega)
  exact h1
/-- What Find tells. -/
def FindOk (s : ByteArray) (l : List TokR) : Prop := (∀ o ∈ l, o.lit < 256) ∧ expGo s.size l [] = (0, s.data.toList) ∧ l.length ≤ s.size ∧ ∀ b, AllB s b → l.length ≤ 3 + s.size / 200
theorem FInv.done {s : ByteArray} {l : List TokR} (h : FInv s s.size l) : FindOk s l := by
  refine ⟨h.lit, ?_, h.len, fun b hb => ?_⟩
  · rw [h.exp, List.take_of_length_le (by simp)]
  · have := h.runs b hb
    have := h.len
    omega
theorem reach_all {s : ByteArray} {k : Nat} {F : Pl} {t : TokR} (h : KInv s k F) (hk : k + 2 < s.size) {x y z : UInt8} (hx : s.data[k]? = some x) (hy : s.data[k + 1]? = some y) (hz : s.data[k + 2]? = some z) (hr : Reach s k ((F x y z).getD 0 0) t) (h0 : 0 ≤ t.len) : ∀ b, AllB s b → 1 ≤ k → k + 2 < s.size → (min (s.size - k) 258 : Nat) ≤ t.len.toNat := by
  intro b hb h1 _
  have ex : x = b := by have := hb k (by omega); rw [hx] at this; injection this
  have ey : y = b := by have := hb (k + 1) (by omega); rw [hy] at this; injection this
  have ez : z = b := by have := hb (k + 2) (by omega); rw [hz] at this; injection this
  subst ex; subst ey; subst ez
  have hh := h.2.1 _ hb h1 (by omega)
  have := hr (k - 1) (min (s.size - k) 258) (by rw [hh]; omega) (by omega) (Nat.le_refl _) (fun i hi => by rw [hb _ (by omega), hb _ (by omega)])
  omega
end Go.Proofs.YtacgnadhpgkcmaaDoor
/- keep, where three bytes are left (contract of the function). -/
namespace Go.Proofs.YtacgnadhpgkcmaaDoor
open Go.RowKit
set_option linter.unusedVariables false
theorem FinAt.ne {w : World} {g mb n : Nat} {s : ByteArray} {F : Pl} (h : FinAt w g mb n s F) : mb ≠ g := fun e => by
  subst e
  obtain ⟨D, ⟨es, c, h1, _⟩, _⟩ := h.map
  have h2 := h.blk
  unfold Has at h2
  rw [h1] at h2
  cases h2
theorem int_size1 : (Tryd.prog.info? 3).map (·.size) = some 1 := by kernel_rfl
theorem copy_pl (pb : Nat) (p0 p1 p2 p3 p4 p5 p6 p7 : Int) (w : World) (h : Has w pb 98 #[.int .i64 p0, .int .i64 p1, .int .i64 p2, .int .i64 p3, .int .i64 p4, .int .i64 p5, .int .i64 p6, .int .i64 p7]) :
    ∃ w', (Builtin.copy_ #[32, 32] 3 #[.slice (some ⟨pb, 1, none⟩) 7 7, .slice (some ⟨pb, 0, none⟩) 8 8]).run Tryd.prog w = .ok (.int .i64 7) w' ∧ Has w' pb 98 #[.int .i64 p0, .int .i64 p0, .int .i64 p1, .int .i64 p2, .int .i64 p3, .int .i64 p4, .int .i64 p5, .int .i64 p6] ∧ w.grownBy w' (some pb) := by
  have hr := run_copy_row (P := Tryd.prog) w 32 32 3 3 pb 1 7 7 ⟨pb, 0, none⟩ 8 8 _ 98 [.int .i64 p0, .int .i64 p1, .int .i64 p2, .int .i64 p3, .int .i64 p4, .int .i64 p5, .int .i64 p6] Tryd.underlying32 int_size1 h rfl (fun j v hj => by
    rw [addr_add, h.cell j]
    match j, hj with
    | 0, hj => exact hj
    | 1, hj => exact hj
    | 2, hj => exact hj
    | 3, hj => exact hj
    | 4, hj => exact hj
    | 5, hj => exact hj
    | 6, hj => exact hj
    | j + 7, hj => simp at hj) (by simp) (by intro v hv; simp at hv; rcases hv with rfl | rfl | rfl | rfl | rfl | rfl | rfl <;> rfl)
  refine ⟨_, hr, ?_, ⟨rfl, rfl, rfl, by simp, fun i hi hne => setRow_other _ _ _ _ (fun e => hne (by rw [e]))⟩⟩
  show (w.setRow pb _).heap[pb]? = _
  exact setRow_heap w pb _ _ 98 (0, 0) h
theorem grown_after {w w1 w2 : World} {m : Nat} (h1 : Below w.heap.size w w1) (h2 : w1.grownBy w2 (some m)) : w.grownBy w2 (some m) :=
  ⟨h2.os.trans h1.os, h2.tape.trans h1.tape, h2.output.trans h1.output, Nat.le_trans h1.size h2.size, fun i hi hne => (h2.block i (Nat.lt_of_lt_of_le hi h1.size) hne).trans (h1.block i hi)⟩
theorem wpList_mapUpdate_run {P : Program} {w w' : World} {ops : Array Oper} {rest : List Oper} {o : Oper} {a : Act} {Q : Exit → Act → World → Prop}
    (hg : o.guard = none) (m x v : Operand) (t : TypeId) (hop : o.op = Op.mapUpdate t m x v) {M K V : Value} (hm : a.eval m = M) (hx : a.eval x = K) (hv : a.eval v = V) (hrun : (Instr.mapUpdate t M K V).run P w = .ok () w')
    (hK : wpList P ops Q rest (a.put o.dst undef) w') : wpList P ops Q (o :: rest) a w := by
  refine wpList_plain hg fun K' hK' => ?_
  unfold Oper.wp
  simp [execOp, hop, hm, hx, hv, hrun, Result.andThen]
  exact hK' _ _ hK
set_option maxRecDepth 100000 in
set_option maxHeartbeats 4000000 in
theorem keep_long (G : Nat → Prop) (g mb n : Nat) (s : ByteArray) (hs : s.size ≤ 20000) (F : Pl) (k : Nat) (hk : k + 2 < s.size) (hn : n ≤ 100000) (x y z : UInt8) (hx : s.data[k]? = some x) (hy : s.data[k + 1]? = some y) (hz : s.data[k + 2]? = some z) (w : World) (hf : FinAt w g mb n s F) :
    Calls Tryd.prog 30 #[.pointer (some ⟨g, 0, none⟩), .int .i64 k] w fun e w' => (∃ v, e = .returned v) ∧ FinAt w' g mb (n + 1) s (upd F x y z (shiftP (F x y z) (k + 1))) ∧ w.grownBy w' (some mb) := by
  have hc : w.cell? ⟨g, 0, none⟩ = some (.string s) := hf.blk.cell 0
  have hk1 : (k : Int) < s.size := by omega
  have h3 : ¬ ((s.size : Int) - k) < 3 := by omega
  have h327 : ¬ (32768 : Int) ≤ k := by omega
  have HK : Hid (∀ (W : World), W.cell? ⟨g, 0, none⟩ = some (.string s) → Calls Tryd.prog 48 #[.pointer (some ⟨g, 0, none⟩), .int .i64 k] W fun e w' => e = .returned (.agg #[.int .u8 (x.toNat : Nat), .int .u8 (y.toNat : Nat), .int .u8 (z.toNat : Nat)]) ∧ Bw W w') := hid fun W h => by
    have e0 : s[k] = x := by
      have := (Array.getElem?_eq_getElem (show k < s.data.size from by show k < s.size; omega)).symm.trans hx
      injection this
    have e1 : (s[k + 1]'(by omega)) = y := by
      have := (Array.getElem?_eq_getElem (show k + 1 < s.data.size from by show k + 1 < s.size; omega)).symm.trans hy
      injection this
    have e2 : (s[k + 2]'hk) = z := by
      have := (Array.getElem?_eq_getElem (show k + 2 < s.data.size from hk)).symm.trans hz
      injection this
    have := keyAt_any g s (by omega) k hk W h
    rw [e0, e1, e2] at this
    exact this
  clear hx hy hz
  have hlen := hf.map.len x y z
  have HL := hid (fun (W : World) (h : MapAt W mb n F) => h.look x y z)
  have HF := hid hf
  clear hf
  obtain ⟨ps, hps⟩ : ∃ ps, F x y z = ps := ⟨_, rfl⟩
  rw [hps] at HL hlen ⊢
  clear hps
  match ps, hlen with
  | [p0, p1, p2, p3, p4, p5, p6, p7], _ =>
    have HL2 : Hid (∀ (W : World), MapAt W mb n F → (Instr.lookup 75 (.map (some mb)) (.agg #[.int .u8 (x.toNat : Nat), .int .u8 (y.toNat : Nat), .int .u8 (z.toNat : Nat)]) false).run Tryd.prog W = .ok (.agg #[.int .i64 p0, .int .i64 p1, .int .i64 p2, .int .i64 p3, .int .i64 p4, .int .i64 p5, .int .i64 p6, .int .i64 p7]) W) := HL
    clear HL
    go_enter Tryd.func30, Tryd.ntmps30
    go_wp2_with fail
    refine (HK.out _ hc).mono ?_
    rintro e w2 ⟨rfl, hb2⟩
    have HB2 := hid (hb2.alloc (.cells #[.int .u8 (x.toNat : Nat), .int .u8 (y.toNat : Nat), .int .u8 (z.toNat : Nat)] 100))
    have HKB := hid (Has.new w2 100 #[.int .u8 (x.toNat : Nat), .int .u8 (y.toNat : Nat), .int .u8 (z.toNat : Nat)])
    clear hb2
    go_wp2_with fail
    generalize hW3 : w2.alloc (.cells #[.int .u8 (x.toNat : Nat), .int .u8 (y.toNat : Nat), .int .u8 (z.toNat : Nat)] 100) = W3 at *
    generalize w2.heap.size = kb at *
    have HF3 := hid (HF.out.bw HB2.out)
    have q0 : W3.cell? ⟨g, 1, none⟩ = some (.map (some mb)) := HF3.out.blk.cell 1
    have k0 : W3.cell? ⟨kb, 0, none⟩ = some (.int .u8 (x.toNat : Nat)) := HKB.out.cell 0
    have k1 : W3.cell? ⟨kb, 1, none⟩ = some (.int .u8 (y.toNat : Nat)) := HKB.out.cell 1
    have k2 : W3.cell? ⟨kb, 2, none⟩ = some (.int .u8 (z.toNat : Nat)) := HKB.out.cell 2
    have HS := hid (fun (W : World) (h : Bw W3 W) => (⟨h.cell q0, h.cell k0, h.cell k1, h.cell k2, HL2.out W (HF3.out.map.bw h)⟩ : W.cell? ⟨g, 1, none⟩ = some (.map (some mb)) ∧ W.cell? ⟨kb, 0, none⟩ = some (.int .u8 (x.toNat : Nat)) ∧ W.cell? ⟨kb, 1, none⟩ = some (.int .u8 (y.toNat : Nat)) ∧ W.cell? ⟨kb, 2, none⟩ = some (.int .u8 (z.toNat : Nat)) ∧ (Instr.lookup 75 (.map (some mb)) (.agg #[.int .u8 (x.toNat : Nat), .int .u8 (y.toNat : Nat), .int .u8 (z.toNat : Nat)]) false).run Tryd.prog W = .ok (.agg #[.int .i64 p0, .int .i64 p1, .int .i64 p2, .int .i64 p3, .int .i64 p4, .int .i64 p5, .int .i64 p6, .int .i64 p7]) W))
    clear hW3
    go_region_held3 (fun W => W.cell? ⟨g, 1, none⟩ = some (.map (some mb)) ∧ W.cell? ⟨kb, 0, none⟩ = some (.int .u8 (x.toNat : Nat)) ∧ W.cell? ⟨kb, 1, none⟩ = some (.int .u8 (y.toNat : Nat)) ∧ W.cell? ⟨kb, 2, none⟩ = some (.int .u8 (z.toNat : Nat)) ∧ (Instr.lookup 75 (.map (some mb)) (.agg #[.int .u8 (x.toNat : Nat), .int .u8 (y.toNat : Nat), .int .u8 (z.toNat : Nat)]) false).run Tryd.prog W = .ok (.agg #[.int .i64 p0, .int .i64 p1, .int .i64 p2, .int .i64 p3, .int .i64 p4, .int .i64 p5, .int .i64 p6, .int .i64 p7]) W)
      (first | exact HS.out _ ((Bw.refl W3).drewN 1) | exact HS.out _ (((Bw.refl W3).alloc _).drewN 1))
      ((fail))
    all_goals
      have HP4 : Hid (Has (W3.alloc (.cells #[.int .i64 p0, .int .i64 p1, .int .i64 p2, .int .i64 p3, .int .i64 p4, .int .i64 p5, .int .i64 p6, .int .i64 p7] 98)).drew W3.heap.size 98 #[.int .i64 p0, .int .i64 p1, .int .i64 p2, .int .i64 p3, .int .i64 p4, .int .i64 p5, .int .i64 p6, .int .i64 p7]) := hid (Has.new W3 _ _).drew
      have HB4 : Hid (Bw W3 (W3.alloc (.cells #[.int .i64 p0, .int .i64 p1, .int .i64 p2, .int .i64 p3, .int .i64 p4, .int .i64 p5, .int .i64 p6, .int .i64 p7] 98)).drew) := hid (((Bw.refl W3).alloc _).drewN 1)
      generalize (W3.alloc (.cells #[.int .i64 p0, .int .i64 p1, .int .i64 p2, .int .i64 p3, .int .i64 p4, .int .i64 p5, .int .i64 p6, .int .i64 p7] 98)).drew = W4 at *
      generalize hpbe : W3.heap.size = pb at *
      have HPBE := hid hpbe
      clear hpbe
      obtain ⟨W5, hcp, hp5, hg5⟩ := copy_pl pb p0 p1 p2 p3 p4 p5 p6 p7 W4.drew HP4.out.drew
      have HP5 := hid hp5
      have HG5 := hid hg5
      clear hp5 hg5
      go_wp2_with fail
      go_region
      clear hcp
      have e0 : W5.cell? ⟨pb, 0, none⟩ = some (.int .i64 p0) := HP5.out.cell 0
      have ef := HP5.out.frozen 0
      go_wp2_with fail
      have HB6 : Hid (Below pb W3 (W5.setCell ⟨pb, 0, none⟩ (.int .i64 ((k : Int) + 1)))) := hid (by
        have h1 : Below pb W3 W4.drew := by
          have := HB4.out.drewN 1
          unfold Bw at this
          rw [HPBE.out] at this
          exact this
        have h2 : Below pb W4.drew W5 := own_grown (by have := h1.size; rw [HPBE.out] at this; exact this) (fun b hb => by injection hb with hb; omega) HG5.out
        exact (h1.trans h2).setCell (p := ⟨pb, 0, none⟩) (Nat.le_refl _) _)
      have hpl := HP5.out.put 0 (.int .i64 ((k : Int) + 1))
      have HPL := hid hpl
      generalize W5.setCell ⟨pb, 0, none⟩ (.int .i64 ((k : Int) + 1)) = W6 at *
      clear hpl e0 ef
      have hgl := HF3.out.blk.lt
      have hml := HF3.out.map.lt
      have hkl := HKB.out.lt
      rw [HPBE.out] at hgl hml hkl
      have HF6 := hid (⟨HF3.out.blk.below HB6.out hgl, HF3.out.map.keep (HB6.out.block mb hml)⟩ : FinAt W6 g mb n s F)
      have HK6 := hid (HKB.out.below HB6.out hkl)
      have q6 : W6.cell? ⟨g, 1, none⟩ = some (.map (some mb)) := HF6.out.blk.cell 1
      have k60 : W6.cell? ⟨kb, 0, none⟩ = some (.int .u8 (x.toNat : Nat)) := HK6.out.cell 0
      have k61 : W6.cell? ⟨kb, 1, none⟩ = some (.int .u8 (y.toNat : Nat)) := HK6.out.cell 1
      have k62 : W6.cell? ⟨kb, 2, none⟩ = some (.int .u8 (z.toNat : Nat)) := HK6.out.cell 2
      have a0 : W6.cell? ⟨pb, 0, none⟩ = some (.int .i64 ((k : Int) + 1)) := HPL.out.cell 0
      have a1 : W6.cell? ⟨pb, 1, none⟩ = some (.int .i64 p0) := HPL.out.cell 1
      have a2 : W6.cell? ⟨pb, 2, none⟩ = some (.int .i64 p1) := HPL.out.cell 2
      have a3 : W6.cell? ⟨pb, 3, none⟩ = some (.int .i64 p2) := HPL.out.cell 3
      have a4 : W6.cell? ⟨pb, 4, none⟩ = some (.int .i64 p3) := HPL.out.cell 4
      have a5 : W6.cell? ⟨pb, 5, none⟩ = some (.int .i64 p4) := HPL.out.cell 5
      have a6 : W6.cell? ⟨pb, 6, none⟩ = some (.int .i64 p5) := HPL.out.cell 6
      have a7 : W6.cell? ⟨pb, 7, none⟩ = some (.int .i64 p6) := HPL.out.cell 7
      refine wp_region_still_tail 6 (by kernel_rfl) (by kernel_rfl) ?_
      simp only [List.take_succ_cons, List.take_zero, List.drop_succ_cons, List.drop_zero]
      repeat still_step
      refine wpStill_nil ?_
      change wpList _ _ _ _ _ W6.drew
      have HF7 : Hid (FinAt W6.drew g mb n s F) := hid (HF6.out.bw ((Bw.refl W6).drewN 1))
      have HB7 : Hid (Below pb W3 W6.drew) := hid (HB6.out.drew)
      generalize W6.drew = W7 at *
      obtain ⟨W8, hmu, hm8, hg8⟩ := HF7.out.map.put (by omega) x y z [(k : Int) + 1, p0, p1, p2, p3, p4, p5, p6] rfl
      have hmu2 : (Instr.mapUpdate 75 (.map (some mb)) (.agg #[.int .u8 (x.toNat : Nat), .int .u8 (y.toNat : Nat), .int .u8 (z.toNat : Nat)]) (.agg #[.int .i64 ((k : Int) + 1), .int .i64 p0, .int .i64 p1, .int .i64 p2, .int .i64 p3, .int .i64 p4, .int .i64 p5, .int .i64 p6])).run Tryd.prog W7 = .ok () W8 := hmu
      have HM8 := hid hm8
      have HG8 := hid hg8
      clear hmu hm8 hg8 q6 k60 k61 k62 a0 a1 a2 a3 a4 a5 a6 a7
      refine wpList_mapUpdate_run rfl (.tmp 32) (.tmp 33) (.tmp 34) _ rfl rfl rfl rfl hmu2 ?_
      clear hmu2
      have t327 : decide ((32768 : Int) ≤ k) = false := decide_eq_false (by omega)
      clear h327
      go_wp2
      go_end0
      have hwp : w.heap.size ≤ pb := by have := HB2.out.size; rw [HPBE.out] at this; exact this
      exact ⟨⟨_, rfl⟩, ⟨has_grown HF7.out.blk HG8.out (fun e => HF7.out.ne (by injection e)), HM8.out⟩, grown_after (Below.trans HB2.out (Below.mono HB7.out hwp)) HG8.out⟩
end Go.Proofs.YtacgnadhpgkcmaaDoor
/- Find, whole (contract of the function). -/
namespace Go.Proofs.YtacgnadhpgkcmaaDoor
open Go.RowKit
set_option linter.unusedVariables false
set_option maxRecDepth 100000 in
set_option maxHeartbeats 1000000 in
theorem token_end (g : Nat) (s : ByteArray) (hs : s.size ≤ 1000000) (k : Nat) (hk : k < s.size) (he : s.size < k + 3) (w : World) (hc : w.cell? ⟨g, 0, none⟩ = some (.string s)) :
    Calls Tryd.prog 29 #[.pointer (some ⟨g, 0, none⟩), .int .i64 k] w fun e w' => e = .returned (.agg #[.int .u8 (s[k].toNat : Nat), .int .i64 0, .int .i64 0]) ∧ Bw w w' := by
  have hk1 : (k : Int) < s.size := by omega
  have hc1 := cell_al1 hc
  have hc2 := cell_al2 hc
  clear hc
  have h3 : ((s.size : Int) - k) < 3 := by omega
  go_enter Tryd.func29, Tryd.ntmps29
  go_wp2
  refine bodyPost_ret (by simp [results, Tryd.results29, go_sem]; try rfl) rfl ?_
  exact ⟨rfl, ((Bw.refl w).alloc _).alloc _⟩
set_option maxRecDepth 100000 in
theorem keep_end (g : Nat) (s : ByteArray) (hs : s.size ≤ 1000000) (k : Nat) (hk : k < s.size) (he : s.size < k + 3) (w : World) (hc : w.cell? ⟨g, 0, none⟩ = some (.string s)) :
    Calls Tryd.prog 30 #[.pointer (some ⟨g, 0, none⟩), .int .i64 k] w fun e w' => (∃ v, e = .returned v) ∧ w' = w := by
  have hk1 : (k : Int) < s.size := by omega
  have h3 : ((s.size : Int) - k) < 3 := by omega
  go_enter Tryd.func30, Tryd.ntmps30
  go_wp2
  refine bodyPost_ret (results_none rfl _ _ _) rfl ?_
  exact ⟨⟨_, rfl⟩, rfl⟩
/-- A token, whatever is left. -/
theorem token_any (g mb n : Nat) (s : ByteArray) (hs : s.size ≤ 20000) (F : Pl) (k : Nat) (hk : k < s.size) (w : World) (hf : FinAt w g mb n s F) (hK : KInv s k F) :
    Calls Tryd.prog 29 #[.pointer (some ⟨g, 0, none⟩), .int .i64 k] w fun e w' => ∃ t : TokR, e = .returned (.agg #[.int .u8 t.lit, .int .i64 t.len, .int .i64 t.dist]) ∧ TokAt s k t ∧ (∀ b, AllB s b → 1 ≤ k → k + 2 < s.size → (min (s.size - k) 258 : Nat) ≤ t.len.toNat) ∧ Bw w w' ∧ t = tokF s k := by
  by_cases h : k + 2 < s.size
  · have hx : s.data[k]? = some s[k] := Array.getElem?_eq_getElem hk
    have hy : s.data[k + 1]? = some (s[k + 1]'(by omega)) := Array.getElem?_eq_getElem (show k + 1 < s.size by omega)
    have hz : s.data[k + 2]? = some (s[k + 2]'h) := Array.getElem?_eq_getElem h
    refine (token_long g mb n s hs F k h w hf hK.1).mono ?_
    rintro e w' ⟨t, he, h1, h2, h3, h4⟩
    refine ⟨t, he, h1, reach_all hK h hx hy hz h2 (h1.facts hk).2.2.2.2.1, h3, ?_⟩
    have ex : sB s k = s[k] := by unfold sB; rw [hx]; rfl
    have ey : sB s (k + 1) = s[k + 1]'(by omega) := by unfold sB; rw [hy]; rfl
    have ez : sB s (k + 2) = s[k + 2]'h := by unfold sB; rw [hz]; rfl
    unfold tokF
    rw [if_pos h, ex, ey, ez, ← hK.2.2]
    exact h4
  · refine (token_end g s (by omega) k hk (by omega) w (hf.blk.cell 0)).mono ?_
    rintro e w' ⟨he, h3⟩
    exact ⟨⟨(s[k]'hk).toNat, 0, 0⟩, he, .inl ⟨s[k], Array.getElem?_eq_getElem hk, rfl⟩, fun b _ _ h2 => absurd h2 h, h3, by
      have ex : sB s k = s[k] := by unfold sB; rw [Array.getElem?_eq_getElem hk]; rfl
      unfold tokF
      rw [if_neg h, ex]⟩
theorem grown_refl (w : World) (m : Nat) : w.grownBy w (some m) := ⟨rfl, rfl, rfl, Nat.le_refl _, fun i hi hne => rfl⟩
/-- A place kept, whatever is left. -/
theorem keep_any (g mb : Nat) (s : ByteArray) (hs : s.size ≤ 20000) (F : Pl) (k : Nat) (hk : k < s.size) (w : World) (hf : FinAt w g mb k s F) (hK : KInv s k F) :
    Calls Tryd.prog 30 #[.pointer (some ⟨g, 0, none⟩), .int .i64 k] w fun e w' => (∃ v, e = .returned v) ∧ ∃ F', FinAt w' g mb (k + 1) s F' ∧ KInv s (k + 1) F' ∧ w.grownBy w' (some mb) := by
  by_cases h : k + 2 < s.size
  · have hx : s.data[k]? = some s[k] := Array.getElem?_eq_getElem hk
    have hy : s.data[k + 1]? = some (s[k + 1]'(by omega)) := Array.getElem?_eq_getElem (show k + 1 < s.size by omega)
    have hz : s.data[k + 2]? = some (s[k + 2]'h) := Array.getElem?_eq_getElem h
    refine (keep_long (fun _ => True) g mb k s hs F k h (by omega) _ _ _ hx hy hz w hf).mono ?_
    rintro e w' ⟨he, h1, h2⟩
    exact ⟨he, _, h1, hK.long h hx hy hz, h2⟩
  · refine (keep_end g s (by omega) k hk (by omega) w (hf.blk.cell 0)).mono ?_
    rintro e w' ⟨he, rfl⟩
    exact ⟨he, F, ⟨hf.blk, hf.map.mono (Nat.le_succ k)⟩, hK.short (by omega), grown_refl _ _⟩
theorem own_ne_map {w : World} {B : Nat} {e : TypeId} {size n : Nat} {v : Value} {xs : List Value} (h : w.ownsRow B e size v n xs) {mb m : Nat} {F : Pl} (hm : MapAt w mb m F) : v.ownBlock ≠ some mb := fun hb => by
  obtain ⟨cur, h1⟩ := own_at h hb
  obtain ⟨D, ⟨es, c, h2, _⟩, _⟩ := hm
  rw [h1] at h2
  cases h2
theorem own_nil_cap {w : World} {B : Nat} {e : TypeId} {size n c : Nat} {a : Option Addr} {xs : List Value} (h : w.ownsRow B e size (.slice a n c) n xs) (ha : a = none) : c = 0 := by
  subst ha
  rcases h.2 with ⟨h1, _⟩ | ⟨g, cap, cur, h1, _⟩
  · injection h1
  · injection h1 with h2; cases h2
def FindPost (s : ByteArray) (w : World) (e : Ending) (w' : World) : Prop := ∃ (l : List TokR) (a : Option Addr) (cap : Nat), e = .returned (.slice a l.length cap) ∧ FindOk s l ∧ ToksAt w' a l ∧ Bw w w' ∧ (a = none → cap = 0) ∧ l = findL s
set_option maxRecDepth 100000 in
set_option maxHeartbeats 4000000 in
theorem find_any (s : ByteArray) (hs : s.size ≤ 20000) (w : World) :
    Calls Tryd.prog 15 #[.string s] w (FindPost s w) := by
  obtain ⟨i0, hinf, hz0, hz1, hz2⟩ := info_parts tokInfo
  have hmm := @run_makeMap Tryd.prog
  have HB0 := hid (((Bw.refl w).alloc (.map #[] 0)).alloc (.cells #[.string s, .map (some w.heap.size)] 77))
  have hf0 := Has.new (w.alloc (.map #[] 0)) 77 #[.string s, .map (some w.heap.size)]
  rw [World.size_alloc] at hf0
  have HF0 := hid (⟨hf0, (MapAt.made w).bw ((Bw.refl _).alloc (.cells #[.string s, .map (some w.heap.size)] 77))⟩ : FinAt ((w.alloc (.map #[] 0)).alloc (.cells #[.string s, .map (some w.heap.size)] 77)) (w.heap.size + 1) w.heap.size 0 s (fun _ _ _ => zero8))
  clear hf0
  obtain ⟨g, hg⟩ : ∃ g, w.heap.size + 1 = g := ⟨_, rfl⟩
  rw [hg] at HF0
  have hgl : w.heap.size < g := by omega
  have HG := hid hg
  clear hg
  go_enter Tryd.func15, Tryd.ntmps15
  go_wp2
  rw [HG.out]
  go_loopw [4, 5] (fun v i wr => ∃ k m : Nat, ∃ l : List TokR, ∃ F : Pl, k ≤ s.size ∧ i = .int .i64 k ∧ Hid (l.length = m) ∧ m ≤ k ∧ wr.ownsRow w.heap.size 30 3 v m (tokCells l) ∧ Hid (FInv s k l) ∧ Hid (KInv s k F) ∧ FinAt wr g w.heap.size k s F ∧ Bw w wr) (fun _ i _ => s.size - (intOf i).toNat)
  case atStart => exact ⟨0, 0, [], _, Nat.zero_le _, rfl, hid rfl, Nat.le_refl _, World.ownsRow_nil _ _ _ _, hid (FInv.start s), hid (KInv.start s), HF0.out, HB0.out⟩
  case round =>
    rename World => wr
    obtain ⟨k, m, l, F, hk, rfl, HM, hmk, hown, HI, HK, hf, hbw⟩ := hrel
    obtain ⟨vo, vc, rfl⟩ := own_slice hown
    have HOW := hid hown
    have HF := hid hf
    have HBW := hid hbw
    have hzw := hbw.size
    by_cases hlt : k < s.size
    · have hk1 : (k : Int) < s.size := by omega
      have HT := hid (token_any g w.heap.size k s hs F k hlt wr hf HK.out)
      clear hown hf hbw hmm
      go_wp2_with fail
      refine HT.out.mono ?_
      rintro e w2 ⟨⟨x0, x1, x2⟩, rfl, htok, hreach, hw2, htf⟩
      have HFA := hid (htok.facts hlt)
      have HI2 := hid (HI.out.step hlt htok hreach htf)
      clear htf
      obtain ⟨hl4, hl5, hl6, hl7⟩ := HFA.out.2.2.2
      simp only at hl5 hl6 hl7
      obtain ⟨tl, htl⟩ : ∃ tl, tlen ⟨x0, x1, x2⟩ = tl := ⟨_, rfl⟩
      rw [htl] at HI2 hl4
      have hmx : max x1 1 = (tl : Nat) := by
        unfold tlen at htl
        simp only at htl
        omega
      have htl1 : 1 ≤ tl := by omega
      have hz2' := hw2.size
      have HB2 := hid (HBW.out.trans hw2)
      have HT2 := hid (Has.new w2 30 #[.int .u8 x0, .int .i64 x1, .int .i64 x2])
      have HO2 := hid (hw2.own HOW.out)
      have HF2 := hid (HF.out.bw hw2)
      have hm9 : m ≤ 20000 := by omega
      clear hw2 htok hreach htl hl5 hl6 hl7
      go_wp2_with (at_builtin; refine wpList_append_own_at _ rfl (.tmp 18) (.tmp 20) 22 rfl w.heap.size 30 i0 (.agg #[.int .u8 0, .int .i64 0, .int .i64 0]) 3 24 Tryd.underlying22 hinf hz0 hz1 hz2 rfl (by decide) (.slice vo m vc) m (tokCells l) rfl ((HO2.out.alloc _).alloc _) ⟨w2.heap.size + 1, 0, none⟩ 1 1 [.int .u8 x0, .int .i64 x1, .int .i64 x2] rfl rfl (three_at (by simpa using Has.new (w2.alloc (.cells #[.int .u8 x0, .int .i64 x1, .int .i64 x2] 30)) 30 #[.int .u8 x0, .int .i64 x1, .int .i64 x2])) (by intro u hu; simp at hu; rcases hu with rfl | rfl | rfl <;> rfl) (by unfold maxLen; omega) (by omega) (by simp only [World.size_alloc]; omega) ?_; intro v' w5 hown5 hgrow5 _ _; have HO5 := hid hown5; have HG5 := hid hgrow5; have HT5 := hid (has_grown (HT2.out.alloc (.cells #[.int .u8 x0, .int .i64 x1, .int .i64 x2] 30)) hgrow5 (fun e => absurd (own_lt HO2.out e) (Nat.lt_irrefl _))); have g5 : w5.cell? ⟨w2.heap.size, 1, none⟩ = some (.int .i64 x1) := HT5.out.cell 1; have HF5 := hid (⟨has_grown ((HF2.out.blk.alloc _).alloc _) hgrow5 (own_ne_has HO2.out HF2.out.blk (by decide)), ((HF2.out.map.bw ((Bw.refl _).alloc _)).bw ((Bw.refl _).alloc _)).keep (hgrow5.block _ (by have := HF2.out.map.lt; simp only [World.size_alloc]; omega) (fun e => own_ne_map HO2.out HF2.out.map e.symm))⟩ : FinAt w5 g w.heap.size k s F); obtain ⟨vo5, vc5, rfl⟩ := own_slice hown5; clear hown5 hgrow5)
      have HB5 : Hid (Bw w w5) := hid (Below.trans ((HB2.out.alloc _).alloc _) (own_grown (by simp only [World.size_alloc]; omega) (fun b hb => own_ge HO2.out hb) HG5.out))
      go_loopw [5, 25] (fun i j wi => ∃ p q : Nat, ∃ F' : Pl, p ≤ tl ∧ Hid (k + p = q) ∧ q ≤ s.size ∧ j = .int .i64 p ∧ i = .int .i64 q ∧ wi.ownsRow w.heap.size 30 3 (.slice vo5 (m + 1) vc5) (m + 1) (tokCells l ++ [.int .u8 x0, .int .i64 x1, .int .i64 x2]) ∧ Hid (KInv s q F') ∧ FinAt wi g w.heap.size q s F' ∧ Bw w wi) (fun _ j _ => tl - (intOf j).toNat)
      case atStart => exact ⟨0, k, F, Nat.zero_le _, hid rfl, by omega, rfl, rfl, HO5.out, HK, HF5.out, HB5.out⟩
      case round =>
        rename World => wi
        obtain ⟨p, q, F', hp, HPQ, hqs, rfl, rfl, ho, HK', hf', hb'⟩ := hrel
        have HO' := hid ho
        have HF' := hid hf'
        have HB' := hid hb'
        have hzi := hb'.size
        clear ho hf' hb'
        by_cases hpt : p < tl
        · have hqlt : q < s.size := by have := HPQ.out; omega
          have hp1 : (p : Int) < tl := by omega
          have HKP := hid (keep_any g w.heap.size s hs F' q hqlt wi HF'.out HK'.out)
          go_wp2_with fail
          refine HKP.out.mono ?_
          rintro e w6 ⟨⟨rv, rfl⟩, F6, hf6, hk6, hg6⟩
          have HO6 := hid (own_keep HO'.out (fun b hb => hg6.block b (own_lt HO'.out hb) (fun e => own_ne_map HO'.out HF'.out.map (by rw [hb, e]))))
          have HB6 : Hid (Bw w w6) := hid (Below.trans HB'.out (own_grown hzi (fun b hb => by injection hb with hb; omega) hg6))
          have HF6 := hid hf6
          have HK6 := hid hk6
          clear hf6 hk6 hg6
          go_wp2
          exact ⟨⟨p + 1, q + 1, F6, by omega, hid (by have := HPQ.out; omega), by omega, by go_num, by go_num, HO6.out, HK6, HF6.out, HB6.out⟩, by simp [intOf]; omega⟩
        · obtain rfl : p = tl := by omega
          go_wp2
          refine ⟨⟨q, m + 1, l ++ [⟨x0, x1, x2⟩], F', hqs, rfl, hid (by rw [List.length_append, HM.out]; rfl), by have := HPQ.out; omega, by rw [tokCells_snoc]; exact HO'.out, by rw [← HPQ.out]; exact HI2, HK', HF'.out, HB'.out⟩, by have := HPQ.out; simp [intOf]; omega⟩
    · obtain rfl : k = s.size := by omega
      clear hmm
      go_wp2
      go_returns
      exact ⟨l, vo, vc, by rw [HM.out]; rfl, HI.out.done, toksAt_own (by rw [HM.out]; exact HOW.out) HI.out.lit, HBW.out, own_nil_cap HOW.out, HI.out.fin⟩
end Go.Proofs.YtacgnadhpgkcmaaDoor
