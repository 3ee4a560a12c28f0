/- Sections put behind one another, with their names (contract of the closure). -/
import Derived.Test.YtciaebhkemdilaaElfN
import Derived.Test.YtciaebhkemdilaaKitS
import Derived.Test.YtciaebhkemdilaaElfXg
import Derived.Deep.RegionLaw
namespace Go.Proofs.Ytciaebhkemdilaa
open Go.RowKit Go.Conc
set_option linter.unusedVariables false
set_option linter.unusedSimpArgs false
/-- Names, each with a byte 0 behind it. -/
def nmsT : List SecR → ByteArray
  | [] => ⟨#[]⟩
  | x :: r => x.nam ++ ⟨#[0]⟩ ++ nmsT r
/-- Sections with the places of their names, from p on. -/
def allG : List SecR → Nat → List (SecR × Nat)
  | [], _ => []
  | x :: r, p => (x, p) :: allG r (p + x.nam.size + 1)
theorem nmsT_app (l m : List SecR) : nmsT (l ++ m) = nmsT l ++ nmsT m := by
  induction l with
  | nil => rw [List.nil_append, nmsT, nil_app]
  | cons x r ih => rw [List.cons_append, nmsT, nmsT, ih, app_as, app_as, app_as]
theorem one_size : (⟨#[0]⟩ : ByteArray).size = 1 := rfl
theorem allG_app (l m : List SecR) (p : Nat) : allG (l ++ m) p = allG l p ++ allG m (p + (nmsT l).size) := by
  induction l generalizing p with
  | nil => rfl
  | cons x r ih =>
    rw [List.cons_append, allG, allG, ih, List.cons_append, nmsT, ByteArray.size_append, ByteArray.size_append, one_size]
    congr 3
    omega
theorem allG_len (l : List SecR) (p : Nat) : (allG l p).length = l.length := by
  induction l generalizing p with
  | nil => rfl
  | cons x r ih => rw [allG, List.length_cons, List.length_cons, ih]
def plcCell (x : SecR × Nat) : List Value := [.string x.1.nam, .int .i64 x.1.typ, .int .u64 x.1.flg, .int .u64 x.1.adr, .string x.1.dat, .int .i64 x.1.siz, .int .i64 x.1.lnk, .int .i64 x.1.inf, .int .u64 x.1.aln, .int .u64 x.1.eac, .int .i64 x.2, .int .i64 0]
def plcCells (l : List (SecR × Nat)) : List Value := l.flatMap plcCell
theorem plcCells_app (l m : List (SecR × Nat)) : plcCells (l ++ m) = plcCells l ++ plcCells m := by simp [plcCells]
theorem plcInfo : (Try.prog.info? 74).map (fun i => (i.zero, i.size, i.bytes)) = some (some (.agg #[.string ⟨#[]⟩, .int .i64 0, .int .u64 0, .int .u64 0, .string ⟨#[]⟩, .int .i64 0, .int .i64 0, .int .i64 0, .int .u64 0, .int .u64 0, .int .i64 0, .int .i64 0]), 12, 112) := by kernel_rfl
abbrev TA : List TypeId := [62, 74, 67, 5]
/-- All but blocks of these four kinds, from B on, is as it was. -/
structure AK (B : Nat) (w w' : World) : Prop where
  bel : Below B w w'
  sz : w.heap.size ≤ w'.heap.size
  blk : ∀ (i : Nat) (cs : Array Value) (t : TypeId) (fr : Nat × Nat), w.heap[i]? = some (Obj.cells cs t fr) → t ∉ TA → w'.heap[i]? = some (Obj.cells cs t fr)
theorem AK.refl (B : Nat) (w : World) : AK B w w := ⟨Below.refl _ _, Nat.le_refl _, fun _ _ _ _ h _ => h⟩
theorem AK.trans {B : Nat} {a b c : World} (h : AK B a b) (k : AK B b c) : AK B a c := ⟨h.bel.trans k.bel, Nat.le_trans h.sz k.sz, fun i cs t fr x y => k.blk i cs t fr (h.blk i cs t fr x y) y⟩
theorem AK.of_bw {B : Nat} {w w' : World} (h : Bw w w') (hB : B ≤ w.heap.size) : AK B w w' := ⟨Below.mono h hB, h.size, fun i cs t fr x _ => by
  have hi : i < w.heap.size := (Array.getElem?_eq_some_iff.1 x).1
  rw [h.block i hi]; exact x⟩
theorem AK.of_bk {B b : Nat} {w w' : World} {cs : Array Value} (h : BKeeps B b w w') (hb : Has w b 67 cs) : AK B w w' := ⟨h.1, h.2.1, fun i c t fr x y => by
  have hi : i < w.heap.size := (Array.getElem?_eq_some_iff.1 x).1
  rw [h.2.2 i hi (fun e => by
    subst e
    unfold Has at hb
    rw [hb] at x
    injection x with x
    injection x with _ x
    subst x
    exact y (by simp)) (fun c2 f2 e => by
    rw [x] at e
    injection e with e
    injection e with _ e
    subst e
    exact y (by simp))]
  exact x⟩
theorem AK.of_grown {B z n : Nat} {t0 : TypeId} {v : Value} {xs : List Value} {w w' : World} (ho : w.ownsRow B t0 z v n xs) (hg : w.grownBy w' v.ownBlock) (hB : B ≤ w.heap.size) (h0 : t0 ∈ TA) : AK B w w' := ⟨own_grownJ ho hg hB, hg.size, fun i cs t fr x y => by
  have hi : i < w.heap.size := (Array.getElem?_eq_some_iff.1 x).1
  rw [hg.block i hi (fun e => by
    obtain ⟨cur, hc⟩ := own_at ho e.symm
    rw [hc] at x
    injection x with x
    injection x with _ x
    subst x
    exact y h0)]
  exact x⟩
theorem AK.of_set {B g : Nat} {t0 : TypeId} {cs0 : Array Value} {w : World} (h : Has w g t0 cs0) (hg : B ≤ g) (h0 : t0 ∈ TA) (o : Nat) (v : Value) : AK B w (w.setCell ⟨g, o, none⟩ v) := ⟨(Below.refl B w).setCell (p := ⟨g, o, none⟩) hg v, by simp [World.setCell], fun i cs t fr x y => by
  rw [Below.heap_setCell w ⟨g, o, none⟩ v i (fun e => by
    have e2 : i = g := e
    subst e2
    unfold Has at h
    rw [h] at x
    injection x with x
    injection x with _ x
    subst x
    exact y h0)]
  exact x⟩
theorem AK.has {B g : Nat} {t : TypeId} {cs : Array Value} {w w' : World} (h : AK B w w') (k : Has w g t cs) (ht : t ∉ TA) : Has w' g t cs := h.blk g cs t (0, 0) k ht
/-- What all has made so far: the box of the row at pb, the builder at bb. -/
structure AllS (B pb bb : Nat) (L : List (SecR × Nat)) (s : ByteArray) (w : World) : Prop where
  pl : B ≤ pb
  row : ∃ ao cp, Has w pb 62 #[.slice ao L.length cp] ∧ w.ownsRow B 74 12 (.slice ao L.length cp) L.length (plcCells L)
  bld : ∃ u, Bld B bb u s w
theorem bld_has {B b : Nat} {u : Bool} {s : ByteArray} {w : World} (h : Bld B b u s w) : ∃ cs, Has w b 67 cs := by
  obtain ⟨_, v, h2, _⟩ := h
  exact ⟨_, h2⟩
theorem Bld.ak {B b : Nat} {u : Bool} {s : ByteArray} {w w' : World} (h : Bld B b u s w) (hk : ∀ i cs, (Has w i 67 cs ∨ ∃ fz, w.heap[i]? = some (.cells cs 5 fz)) → w'.heap[i]? = w.heap[i]?) : Bld B b u s w' := by
  obtain ⟨h1, v, h2, h3⟩ := h
  exact ⟨h1, v, (hk b _ (.inl h2)).trans h2, own_keep h3 fun k hb => by
    obtain ⟨cur, hc⟩ := own_at h3 hb
    exact hk k cur (.inr ⟨_, hc⟩)⟩
set_option maxHeartbeats 400000 in
theorem blen_any {B b : Nat} {u : Bool} {s : ByteArray} {w : World} (h : Bld B b u s w) :
    Calls Try.prog 57 #[.pointer (some ⟨b, 0, none⟩)] w fun e w' => e = .returned (.int .i64 s.size) ∧ w' = w := by
  obtain ⟨hB, v, hH, hR⟩ := h
  obtain ⟨ao, cap, rfl⟩ := own_slice hR
  have c1 : w.cell? ⟨b, 1, none⟩ = some (.slice ao s.size cap) := hH.cell 1
  clear hH hR
  go_enter Try.func57, Try.ntmps57
  go_wp2
  go_returns
  exact ⟨rfl, rfl⟩
end Go.Proofs.Ytciaebhkemdilaa
