/- The map of places: its keys (three bytes), its elements (eight numbers), what it holds key by key. -/
import Derived.Test.YthegehgjpehfkaaMatK
import Derived.Maps.Own
import Derived.Maps.Views
import Derived.DeepKeys4
namespace Go.Proofs.Ythegehgjpehfkaa
open Go.RowKit Go.Maps
set_option linter.unusedVariables false
theorem laidOutM : laidOutB Try.prog = true := by kernel_rfl
theorem keyRow : (58 : TypeId) < Try.prog.types.size := of_decide_eq_true (by kernel_rfl)
theorem keyCells : Try.prog.cellsOf 58 = 3 := by kernel_rfl
theorem byteCellsOf : Try.prog.cellsOf 5 = 1 := by kernel_rfl
theorem keyWide : (match Try.prog.underlying 58 with | some (.array _ _) | some (.struct _) => true | _ => false) = true := by rw [Try.underlying58]
theorem keyLaw : WideMaps.KeyLaw Try.prog 58 := deep_law_laid laidOutM (m := 2) (by omega) keyRow (by kernel_rfl) keyWide
theorem keyed : Keyed Try.prog 58 := Keyed.of_law keyLaw
def kl (x y z : UInt8) : Lit := .string [x, y, z]
def keyV (x y z : UInt8) : Value := .agg #[.int .u8 (x.toNat : Nat), .int .u8 (y.toNat : Nat), .int .u8 (z.toNat : Nat)]
theorem typesSize : ∃ m, Try.prog.types.size = m + 1 := ⟨_, (Nat.succ_pred_eq_of_pos (Nat.lt_of_le_of_lt (Nat.zero_le _) (show (58 : Nat) < _ from keyRow))).symm⟩
theorem byte_wf (x : UInt8) : (Lit.int .u8 (x.toNat : Nat)).wf = true := by
  have := x.toNat_lt
  simp [Lit.wf, IntKind.min, IntKind.max, IntKind.bits, IntKind.signed]; omega
theorem byte_bytes (x : UInt8) : Lit.keyBytes (.int .u8 (x.toNat : Nat)) = [x] := by
  have h := x.toNat_lt
  have e : (((x.toNat : Nat) : Int) % 2 ^ 8).toNat = x.toNat := by omega
  show bytesBE (8 / 8) (((x.toNat : Nat) : Int) % 2 ^ 8).toNat = [x]
  rw [e]
  show [UInt8.ofNat (x.toNat % 256)] = [x]
  rw [Nat.mod_eq_of_lt h, UInt8.ofNat_toNat]
theorem key_of (x y z : UInt8) : keyOf Try.prog 58 (keyV x y z) = some (kl x y z) := by
  obtain ⟨m, hm⟩ := typesSize
  have hk : Try.prog.keyType 58 = true := by kernel_rfl
  have hf : (keyV x y z).formed Try.prog 58 = true := by simp [keyV, Value.formed, Try.underlying58, keyCells]
  unfold keyOf
  rw [Try.underlying58]
  simp only [hk, hf, Bool.and_self, if_true, hm]
  simp [keyV, Value.cells, Program.keyLits, Try.underlying58, Try.underlying5, keyCells, byteCellsOf, byte_wf, List.range, List.range.loop]
  simp [keyBytes, byte_bytes, kl]
theorem kl_ne {x y z a b c : UInt8} (h : ¬ (x = a ∧ y = b ∧ z = c)) : kl a b c ≠ kl x y z := fun e => by
  unfold kl at e
  injection e with e
  simp only [List.cons.injEq, and_true] at e
  exact h ⟨e.1.symm, e.2.1.symm, e.2.2.symm⟩
/-- Eight numbers. -/
def plV (ps : List Int) : Value := .agg (ps.map (Value.int .i64)).toArray
def plD (ps : List Int) : DataW Unit := .agg (ps.map fun p => .lit (.int .i64 p))
def unI : Value → Option Int
  | .int .i64 n => some n
  | _ => none
def plR : Value → Option (DataW Unit × List MemPlace)
  | .agg a => if a.size = 8 then (a.toList.mapM unI).map fun ps => (plD ps, []) else none
  | _ => none
theorem mapM_unI (ps : List Int) : (ps.map (Value.int .i64)).mapM unI = some ps := by
  induction ps with
  | nil => rfl
  | cons p ps ih => rw [List.map_cons, List.mapM_cons, ih]; rfl
theorem mapM_unI_inv : ∀ (l : List Value) (ps : List Int), l.mapM unI = some ps → l = ps.map (Value.int .i64)
  | [], ps, h => by
    have : some [] = some ps := h
    injection this with this
    subst this; rfl
  | v :: l, ps, h => by
    rw [List.mapM_cons] at h
    cases hv : unI v with
    | none => rw [hv] at h; cases h
    | some n =>
      rw [hv] at h
      cases hl : l.mapM unI with
      | none => rw [hl] at h; cases h
      | some qs =>
        rw [hl] at h
        have h2 : some (n :: qs) = some ps := h
        injection h2 with h2
        subst h2
        rw [List.map_cons, ← mapM_unI_inv l qs hl]
        congr 1
        unfold unI at hv
        split at hv
        · injection hv with hv; subst hv; rfl
        · cases hv
theorem plR_mk (ps : List Int) (h : ps.length = 8) : plR (plV ps) = some (plD ps, []) := by
  show (if (ps.map (Value.int .i64)).toArray.size = 8 then _ else none) = _
  rw [if_pos (by simpa using h)]
  show ((ps.map (Value.int .i64)).mapM unI).map _ = _
  rw [mapM_unI]
  rfl
theorem plR_inv {v : Value} {d : DataW Unit} {pl : List MemPlace} (h : plR v = some (d, pl)) : ∃ ps : List Int, ps.length = 8 ∧ v = plV ps ∧ d = plD ps := by
  unfold plR at h
  split at h
  · rename_i a
    split at h
    · rename_i h8
      cases hm : a.toList.mapM unI with
      | none => rw [hm] at h; cases h
      | some ps =>
        rw [hm] at h
        have h2 : some (plD ps, ([] : List MemPlace)) = some (d, pl) := h
        injection h2 with h2
        injection h2 with h3 h4
        have h5 := mapM_unI_inv _ _ hm
        refine ⟨ps, ?_, ?_, h3.symm⟩
        · have : a.toList.length = ps.length := by rw [h5, List.length_map]
          have h6 : a.toList.length = a.size := by simp
          omega
        · unfold plV
          rw [← h5]
    · cases h
  · cases h
theorem plD_inj {ps qs : List Int} (h : plD ps = plD qs) : ps = qs := by
  unfold plD at h
  injection h with h
  have key : ∀ (ps qs : List Int), (ps.map fun p => (DataW.lit (.int .i64 p) : DataW Unit)) = qs.map (fun p => DataW.lit (.int .i64 p)) → ps = qs := by
    intro ps
    induction ps with
    | nil => intro qs h; cases qs with
      | nil => rfl
      | cons q qs => cases h
    | cons p ps ih =>
      intro qs h
      cases qs with
      | nil => cases h
      | cons q qs =>
        rw [List.map_cons, List.map_cons] at h
        injection h with h1 h2
        injection h1 with h1
        injection h1 with _ h1
        rw [h1, ih qs h2]
  exact key ps qs h
def zero8 : List Int := [0, 0, 0, 0, 0, 0, 0, 0]
/-- What the map holds, key by key. -/
abbrev Pl := UInt8 → UInt8 → UInt8 → List Int
def upd (F : Pl) (x y z : UInt8) (ps : List Int) : Pl := fun a b c => if x = a ∧ y = b ∧ z = c then ps else F a b c
def MapAt (w : World) (b n : Nat) (F : Pl) : Prop :=
  ∃ D : DataW Unit, w.ownsMap Try.prog 58 plR b n D ∧ IsMap D ∧ ∀ x y z, D.atKey (kl x y z) (plD zero8) = plD (F x y z) ∧ (F x y z).length = 8
theorem zero_pl (w : World) : (zeroValue 56).run Try.prog w = .ok (plV zero8) w := by kernel_rfl
theorem MapAt.keep {w w' : World} {b n : Nat} {F : Pl} (h : MapAt w b n F) (hb : w'.heap[b]? = w.heap[b]?) : MapAt w' b n F := by
  obtain ⟨D, ⟨es, c, h1, h2⟩, h3⟩ := h
  exact ⟨D, ⟨es, c, hb.trans h1, h2⟩, h3⟩
theorem MapAt.lt {w : World} {b n : Nat} {F : Pl} (h : MapAt w b n F) : b < w.heap.size := by
  obtain ⟨D, ⟨es, c, h1, _⟩, _⟩ := h
  exact (Array.getElem?_eq_some_iff.1 h1).1
theorem MapAt.bw {w w' : World} {b n : Nat} {F : Pl} (h : MapAt w b n F) (hb : Bw w w') : MapAt w' b n F := h.keep (hb.block b h.lt)
theorem MapAt.mono {w : World} {b n m : Nat} {F : Pl} (h : MapAt w b n F) (hn : n ≤ m) : MapAt w b m F := by
  obtain ⟨D, h1, h3⟩ := h
  exact ⟨D, h1.mono hn, h3⟩
theorem MapAt.made (w : World) : MapAt (w.alloc (.map #[] 0)) w.heap.size 0 (fun _ _ _ => zero8) :=
  ⟨.map [], World.ownsMap_made w _ _ _, ⟨[], rfl⟩, fun x y z => ⟨rfl, rfl⟩⟩
theorem MapAt.look {w : World} {b n : Nat} {F : Pl} (h : MapAt w b n F) (x y z : UInt8) : (Instr.lookup 48 (.map (some b)) (keyV x y z) false).run Try.prog w = .ok (plV (F x y z)) w := by
  obtain ⟨D, h1, _, h3⟩ := h
  obtain ⟨v, ps, hr, hv⟩ := h1.lookup keyed Try.underlying48 (zero_pl w) (plR_mk zero8 rfl) (key_of x y z)
  obtain ⟨qs, _, rfl, hd⟩ := plR_inv hv
  rw [(h3 x y z).1] at hd
  rw [hr, plD_inj hd]
theorem MapAt.len {w : World} {b n : Nat} {F : Pl} (h : MapAt w b n F) (x y z : UInt8) : (F x y z).length = 8 := by
  obtain ⟨D, h1, _, h3⟩ := h
  exact (h3 x y z).2
theorem MapAt.put {w : World} {b n : Nat} {F : Pl} (h : MapAt w b n F) (hn : n ≤ 1000000) (x y z : UInt8) (ps : List Int) (hps : ps.length = 8) :
    ∃ w', (Instr.mapUpdate 48 (.map (some b)) (keyV x y z) (plV ps)).run Try.prog w = .ok () w' ∧ MapAt w' b (n + 1) (upd F x y z ps) ∧ w.grownBy w' (some b) := by
  obtain ⟨D, h1, hm, h3⟩ := h
  obtain ⟨w', hr, h4, h5⟩ := h1.update keyed Try.underlying48 (by unfold maxLen; omega) (key_of x y z) (plR_mk ps hps)
  refine ⟨w', hr, ⟨_, h4, ?_, fun a b c => ?_⟩, h5⟩
  · obtain ⟨es, rfl⟩ := hm
    exact ⟨_, rfl⟩
  · unfold upd
    by_cases e : x = a ∧ y = b ∧ z = c
    · obtain ⟨rfl, rfl, rfl⟩ := e
      rw [if_pos ⟨rfl, rfl, rfl⟩]
      exact ⟨atKey_put_same hm (show WideAt.IsKeyLit (.string _) from trivial) _ _, hps⟩
    · rw [if_neg e, atKey_put_other (kl_ne e)]
      exact h3 a b c
end Go.Proofs.Ythegehgjpehfkaa
