import Derived.Test.YtkmbgkcpohchhaaGreatDoorRows
import Derived.Test.YtkmbgkcpohchhaaGreatDoorGHufLeT
import Derived.Test.YtkmbgkcpohchhaaGreatDoorGInfP
import Derived.Maps.AppendAt
import Derived.Deep.Slices
import Derived.Test.YtkmbgkcpohchhaaGreatDoorGDefN
import Derived.StillTailTactics
import Derived.Deep.RegionHeld3
import Derived.Shelf.Small.Bits
import Derived.Deep.QuietTactic
import Derived.BigQuiet
import Derived.IntWalk
namespace Go.Proofs.YtkmbgkcpohchhaaGreatDoor
open Go.RowKit Go.ChangeShapes Go.WideShapes Go.ChangeAt Go.Deep
set_option linter.unusedVariables false
def ToksAt (w : World) (a : Option Addr) (l : List TokR) : Prop :=
  ∀ i (h : i < l.length), ∃ b off, a = some ⟨b, off, none⟩ ∧ b < w.heap.size ∧ w.cell? ⟨b, off + i * 3, none⟩ = some (.int .u8 (l[i]'h).lit) ∧ w.cell? ⟨b, off + i * 3 + 1, none⟩ = some (.int .i64 (l[i]'h).len) ∧ w.cell? ⟨b, off + i * 3 + 2, none⟩ = some (.int .i64 (l[i]'h).dist) ∧ (l[i]'h).lit < 256
theorem ToksAt.below {w w' : World} {a : Option Addr} {l : List TokR} (h : ToksAt w a l) (hb : Below w.heap.size w w') : ToksAt w' a l := fun i hi => by
  obtain ⟨b, off, e, hl, h0, h1, h2, h4⟩ := h i hi
  exact ⟨b, off, e, Nat.lt_of_lt_of_le hl hb.size, (hb.cell (p := ⟨b, _, none⟩) hl).trans h0, (hb.cell (p := ⟨b, _, none⟩) hl).trans h1, (hb.cell (p := ⟨b, _, none⟩) hl).trans h2, h4⟩
theorem cells_tok : Tryz.prog.cellsOf 29 = 3 := by kernel_rfl
section
variable {H : Type} {enc : TypeId × Value → H} {w : World} {base : Nat} {spare : Nat → Bool} {held : Bool}
set_option maxRecDepth 100000 in
theorem open_toks {n : Nat} {u : Value} {y : DataW H × List MemPlace} (h : DataW.trod enc Tryz.prog w base spare held n 22 [u] = some y) :
    ∃ (a : Option Addr) (len cap : Nat) (l : List TokR), u = .slice a len cap ∧ len ≤ 9223372036854775807 ∧ l.length = len ∧ ToksAt w a l := by
  rcases open_slice Tryz.underlying22 h with ⟨hcs, _⟩ | ⟨a, len, cap, mm, nn, D, Pl, hcs, _, hl, hcm, hm, _, hi⟩
  · simp only [List.cons.injEq, and_true] at hcs
    exact ⟨none, 0, 0, [], hcs, by omega, rfl, fun i hi => by simp at hi⟩
  · simp only [List.cons.injEq, and_true] at hcs
    have hlm : len ≤ mm := by rw [hm]; split <;> omega
    by_cases hz : len = 0
    · exact ⟨some a, len, cap, [], hcs, by omega, by simp [hz], fun i hi => by simp at hi⟩
    have hsp : a.spot = none := by
      obtain ⟨cs', hc, _⟩ := hi 0 (by omega)
      rw [cells_tok] at hc
      obtain ⟨_, hcl, hat⟩ := World.cells?_some hc
      match cs', hcl with
      | [v0, v1, v2], _ =>
        have c0 := hat 0 (by omega)
        simp only [List.getElem?_cons_zero] at c0
        simpa [Addr.add] using World.cell?_spot c0
    obtain ⟨b, off, sp⟩ := a
    obtain rfl : sp = none := hsp
    have key : ∀ i, i < len → ∃ p : TokR, ∃ b' off', some (⟨b, off, none⟩ : Addr) = some ⟨b', off', none⟩ ∧ b' < w.heap.size ∧ w.cell? ⟨b', off' + i * 3, none⟩ = some (.int .u8 p.lit) ∧ w.cell? ⟨b', off' + i * 3 + 1, none⟩ = some (.int .i64 p.len) ∧ w.cell? ⟨b', off' + i * 3 + 2, none⟩ = some (.int .i64 p.dist) ∧ p.lit < 256 := fun i hlt => by
      obtain ⟨cs', hc, ht⟩ := hi i (by omega)
      rw [cells_tok] at hc
      obtain ⟨_, hcl, hat⟩ := World.cells?_some hc
      obtain ⟨xs, n', _, hy, hlen, hxl, hf⟩ := DataW.trod_struct Tryz.underlying29 ht
      match cs', hcl with
      | [v0, v1, v2], _ =>
        have h0 := hf 0 _ rfl
        have h1 := hf 1 _ rfl
        have h2 := hf 2 _ rfl
        have e0 : xs[0]? = some (xs[0]'(by rw [hxl]; decide)) := List.getElem?_eq_getElem _
        have e1 : xs[1]? = some (xs[1]'(by rw [hxl]; decide)) := List.getElem?_eq_getElem _
        have e2 : xs[2]? = some (xs[2]'(by rw [hxl]; decide)) := List.getElem?_eq_getElem _
        rw [e0] at h0
        rw [e1] at h1
        rw [e2] at h2
        obtain ⟨x0, hx0, _, hw0⟩ := DataW.trod_int Tryz.underlying5 h0
        obtain ⟨x1, hx1, _⟩ := DataW.trod_int Tryz.underlying3 h1
        obtain ⟨x2, hx2, _⟩ := DataW.trod_int Tryz.underlying3 h2
        have c0 := hat 0 (by omega)
        have c1 := hat 1 (by omega)
        have c2 := hat 2 (by omega)
        have v0e : v0 = .int .u8 x0 := by simpa [show Tryz.prog.cellsOf 5 = 1 from by kernel_rfl] using hx0
        have v1e : v1 = .int .i64 x1 := by simpa [show Tryz.prog.cellsOf 3 = 1 from by kernel_rfl] using hx1
        have v2e : v2 = .int .i64 x2 := by simpa [show Tryz.prog.cellsOf 3 = 1 from by kernel_rfl] using hx2
        subst v0e v1e v2e
        have hr0 : 0 ≤ x0 ∧ x0 < 256 := by
          simp [Lit.wf, IntKind.min, IntKind.max, IntKind.bits, IntKind.signed] at hw0
          omega
        obtain ⟨y0, rfl⟩ := Int.eq_ofNat_of_zero_le hr0.1
        simp only [List.getElem?_cons_zero] at c0
        simp only [List.getElem?_cons_succ, List.getElem?_cons_zero] at c1 c2
        have aj : ∀ j, (Addr.add (Addr.add ⟨b, off, none⟩ (i * 3)) j) = ⟨b, off + i * 3 + j, none⟩ := fun j => by
          unfold Addr.add
          by_cases hz : i * 3 = 0 <;> by_cases hj : j = 0 <;> simp [hz, hj]
        rw [aj] at c0 c1 c2
        refine ⟨⟨y0, x1, x2⟩, b, off, rfl, ?_, by simpa using c0, c1, c2, by have := hr0.2; show y0 < 256; omega⟩
        rcases Nat.lt_or_ge b w.heap.size with hlt' | hge
        · exact hlt'
        · simp [World.cell?, Array.getElem?_eq_none hge] at c0
    have hch : ∃ f : Nat → TokR, ∀ i, i < len → ∃ b' off', some (⟨b, off, none⟩ : Addr) = some ⟨b', off', none⟩ ∧ b' < w.heap.size ∧ w.cell? ⟨b', off' + i * 3, none⟩ = some (.int .u8 (f i).lit) ∧ w.cell? ⟨b', off' + i * 3 + 1, none⟩ = some (.int .i64 (f i).len) ∧ w.cell? ⟨b', off' + i * 3 + 2, none⟩ = some (.int .i64 (f i).dist) ∧ (f i).lit < 256 :=
      ⟨fun i => if h : i < len then (key i h).choose else ⟨0, 0, 0⟩, fun i h => by
        have := (key i h).choose_spec
        simpa [h] using this⟩
    obtain ⟨f, hf⟩ := hch
    refine ⟨some ⟨b, off, none⟩, len, cap, (List.range len).map f, hcs, by unfold maxLen at hcm; omega, by simp, fun i hi => ?_⟩
    have hi' : i < len := by simpa using hi
    have := hf i hi'
    simpa using this
end
def tokCell (o : TokR) : List Value := [.int .u8 o.lit, .int .i64 o.len, .int .i64 o.dist]
def tokCells (l : List TokR) : List Value := l.flatMap tokCell
theorem tokCells_snoc (l : List TokR) (o : TokR) : tokCells (l ++ [o]) = tokCells l ++ tokCell o := by simp [tokCells]
theorem tokCells_get (l : List TokR) (i : Nat) (h : i < l.length) (j : Nat) (hj : j < 3) : (tokCells l)[i * 3 + j]? = (tokCell l[i])[j]? := by
  induction l generalizing i with
  | nil => simp at h
  | cons o l ih =>
    have e : tokCells (o :: l) = tokCell o ++ tokCells l := by simp [tokCells]
    have e4 : (tokCell o).length = 3 := rfl
    rw [e]
    cases i with
    | zero =>
      rw [Nat.zero_mul, Nat.zero_add, List.getElem?_append_left (by omega)]
      rfl
    | succ i =>
      rw [List.getElem?_append_right (by omega), show (i + 1) * 3 + j - (tokCell o).length = i * 3 + j by omega]
      exact ih i (by simpa using h)
theorem toksAt_cells {w : World} {g : Nat} {l : List TokR} (hlt : l.length ≠ 0 → g < w.heap.size) (hc : ∀ j u, (tokCells l)[j]? = some u → w.cell? ⟨g, j, none⟩ = some u) (hv : ∀ o ∈ l, o.lit < 256) : ToksAt w (some ⟨g, 0, none⟩) l := fun i hi => by
  have key : ∀ j, j < 3 → ∀ u, (tokCell l[i])[j]? = some u → w.cell? ⟨g, 0 + i * 3 + j, none⟩ = some u := fun j hj u hu => by
    have := hc (i * 3 + j) u (by rw [tokCells_get l i hi j hj, hu])
    rw [Nat.zero_add]; exact this
  exact ⟨g, 0, rfl, hlt (by omega), key 0 (by omega) _ rfl, key 1 (by omega) _ rfl, key 2 (by omega) _ rfl, hv _ (List.getElem_mem _)⟩
theorem toksAt_own {w : World} {B : Nat} {ao : Option Addr} {n cap : Nat} {l : List TokR} (h : w.ownsRow B 29 3 (.slice ao n cap) l.length (tokCells l)) (hv : ∀ o ∈ l, o.lit < 256) : ToksAt w ao l := by
  rcases h.2 with ⟨h1, h2⟩ | ⟨g, cap', cur, h1, h3, h2, _⟩
  · intro i hi; omega
  · injection h1 with e1 e2 e3
    subst e1
    subst e2
    refine toksAt_cells (fun _ => (Array.getElem?_eq_some_iff.1 h2).1) (fun j u hu => ?_) hv
    have := h.cells (g := g) rfl j u hu
    have ea : (Addr.add ⟨g, 0, none⟩ j) = ⟨g, j, none⟩ := by
      unfold Addr.add
      by_cases hz : j = 0
      · simp [hz]
      · simp; omega
    rwa [ea] at this
end Go.Proofs.YtkmbgkcpohchhaaGreatDoor
namespace Go.Proofs.YtkmbgkcpohchhaaGreatDoor
open Go.RowKit Go.Conc
set_option linter.unusedVariables false
theorem CodeAt.keep {F : Nat → Prop} {w w' : World} {lb ub : Nat} {l : List Int} (h : CodeAt w lb ub l) (hk : Keeps F w w') (h1 : ¬ F lb) (h2 : ¬ F ub) : CodeAt w' lb ub l := h.blocks hk.size (hk.block lb h.l1 h1) (hk.block ub h.u1 h2)
theorem WPost.more {F F1 : Nat → Prop} {w : World} (hf : ∀ i, F1 i → F i ∨ w.heap.size ≤ i) {b : Nat} (hb : b < w.heap.size) (hn : ¬ F b) : ¬ F1 b := fun h => by
  rcases hf b h with h | h
  · exact hn h
  · omega
set_option maxRecDepth 100000 in
set_option maxHeartbeats 4000000 in
theorem symbol_any (F : Nat → Prop) (g k N lb lc ub uc len : Nat) (l : List Int) (hIC : IsCode l) (hll : Hid (l.length = len)) (idx ext more : Nat) (hi : idx < len) (hx : ext ≤ 13) (hm : more < 2 ^ ext) (hk : k ≤ 1125899906842000) (w : World) (h : WrF F w g k N) (hc : CodeAt w lb ub l) (h1 : ¬ F lb) (h2 : ¬ F ub) :
    Calls Tryz.prog 64 #[.pointer (some ⟨g, 0, none⟩), codeV lb lc ub uc len, .agg #[.int .i64 idx, .int .i64 ext, .int .u32 more]] w fun e w' => e = .returned (.tuple #[]) ∧ WPost F g (k + pcK (symP l ⟨idx, ext, more⟩)) (N + pcN (symP l ⟨idx, ext, more⟩) * 2 ^ k) w w' := by
  have hl15 := (hIC.len idx).1
  have hcs := code_small hIC idx
  have hrv := revB_lt (codeF l idx) (lenF l idx)
  have hv32 : revB (codeF l idx) (lenF l idx) < 4294967296 := by
    have : (2 : Nat) ^ lenF l idx ≤ 2 ^ 15 := Nat.pow_le_pow_right (by decide) hl15
    rw [show (2 : Nat) ^ 15 = 32768 by rfl] at this
    omega
  have hm32 : more < 4294967296 := by
    have : (2 : Nat) ^ ext ≤ 2 ^ 13 := Nat.pow_le_pow_right (by decide) hx
    rw [show (2 : Nat) ^ 13 = 8192 by rfl] at this
    omega
  have HE := hid (show k + pcK (symP l ⟨idx, ext, more⟩) = k + lenF l idx + ext ∧ N + pcN (symP l ⟨idx, ext, more⟩) * 2 ^ k = N + revB (codeF l idx) (lenF l idx) * 2 ^ k + more * 2 ^ (k + lenF l idx) by
    refine ⟨by show k + (lenF l idx + (ext + 0)) = _; omega, ?_⟩
    show N + (revB (codeF l idx) (lenF l idx) + 2 ^ lenF l idx * (more + 2 ^ ext * 0)) * 2 ^ k = _
    rw [Nat.mul_zero, Nat.add_zero, Nat.add_mul, Nat.pow_add, Nat.mul_comm (2 ^ lenF l idx) more, Nat.mul_assoc, Nat.mul_comm (2 ^ lenF l idx) (2 ^ k), Nat.add_assoc])
  rw [HE.out.1, HE.out.2]
  have q1 := hc.lc idx (by rw [hll.out]; exact hi)
  have q2 := hc.uc idx (by rw [hll.out]; exact hi)
  generalize lenF l idx = ln at *
  generalize revB (codeF l idx) ln = rv at *
  have hwl := hc.l1
  have hwu := hc.u1
  have HPA := hid (fun F1 w1 h1 => put_ok F1 g k N (by omega) rv hv32 ln (by omega) hrv w1 h1)
  have HPB := hid (fun F1 w1 h1 => put_ok F1 g (k + ln) (N + rv * 2 ^ k) (by omega) more hm32 ext (by omega) hm w1 h1)
  have hidx : (idx : Int) < len := by omega
  have B1 := hid ((Bw.refl w).alloc (.cells #[.slice (some ⟨lb, 0, none⟩) len lc, .slice (some ⟨ub, 0, none⟩) len uc] 47))
  have B2 := hid (B1.out.alloc (.cells #[.int .i64 idx, .int .i64 ext, .int .u32 more] 116))
  have Z1 := hid (show (w.alloc (.cells #[.slice (some ⟨lb, 0, none⟩) len lc, .slice (some ⟨ub, 0, none⟩) len uc] 47)).heap.size = w.heap.size + 1 by simp)
  have C1 := hid ((Has.new w 47 #[.slice (some ⟨lb, 0, none⟩) len lc, .slice (some ⟨ub, 0, none⟩) len uc]).alloc (.cells #[.int .i64 idx, .int .i64 ext, .int .u32 more] 116))
  have C2 := hid (Has.new (w.alloc (.cells #[.slice (some ⟨lb, 0, none⟩) len lc, .slice (some ⟨ub, 0, none⟩) len uc] 47)) 116 #[.int .i64 idx, .int .i64 ext, .int .u32 more])
  rw [Z1.out] at C2
  have HW := hid h
  have HR := hid (show ∀ W, Bw w W → W.cell? ⟨lb, idx, none⟩ = some (.int .i64 ln) ∧ W.cell? ⟨ub, idx, none⟩ = some (.int .u32 rv) from fun W hb => ⟨(World.cell?_of_block (hb.block lb hwl)).trans q1, (World.cell?_of_block (hb.block ub hwu)).trans q2⟩)
  clear hc hIC h q1 q2 Z1 B1
  unfold codeV
  go_enter Tryz.func64, Tryz.ntmps64
  go_wp2_with fail
  generalize (w.alloc (.cells #[.slice (some ⟨lb, 0, none⟩) len lc, .slice (some ⟨ub, 0, none⟩) len uc] 47)).alloc (.cells #[.int .i64 idx, .int .i64 ext, .int .u32 more] 116) = W2 at *
  have HWd := hid (show WrF F W2.drew g k N from HW.out.keep (G := fun _ => False) (.of_bw (Bw.drewN B2.out 1)) fun _ _ h => h)
  have HS := hid (show ∀ W, Bw W2 W → (W.cell? ⟨w.heap.size, 0, none⟩ = some (.slice (some ⟨lb, 0, none⟩) len lc) ∧ W.cell? ⟨w.heap.size, 1, none⟩ = some (.slice (some ⟨ub, 0, none⟩) len uc)) ∧ W.cell? ⟨w.heap.size + 1, 0, none⟩ = some (.int .i64 idx) ∧ W.cell? ⟨w.heap.size + 1, 1, none⟩ = some (.int .i64 ext) ∧ W.cell? ⟨w.heap.size + 1, 2, none⟩ = some (.int .u32 more) from fun W hb => ⟨⟨(hb.has C1.out).cell 0, (hb.has C1.out).cell 1⟩, (hb.has C2.out).cell 0, (hb.has C2.out).cell 1, (hb.has C2.out).cell 2⟩)
  have c1 : W2.drew.cell? ⟨w.heap.size, 0, none⟩ = some (.slice (some ⟨lb, 0, none⟩) len lc) := (HS.out W2.drew ((Bw.refl W2).drewN 1)).1.1
  have c2 : W2.drew.cell? ⟨w.heap.size, 1, none⟩ = some (.slice (some ⟨ub, 0, none⟩) len uc) := (HS.out W2.drew ((Bw.refl W2).drewN 1)).1.2
  have c3 : W2.drew.cell? ⟨w.heap.size + 1, 0, none⟩ = some (.int .i64 idx) := (HS.out W2.drew ((Bw.refl W2).drewN 1)).2.1
  have c4 := (HR.out W2.drew (Bw.drewN B2.out 1)).1
  have c5 := (HR.out W2.drew (Bw.drewN B2.out 1)).2
  generalize hW2d : W2.drew = W3 at *
  go_still_tail 15, (by kernel_rfl)
  change wpList _ _ _ _ _ W2.drew
  rw [hW2d]
  clear c1 c2 c3 c4 c5
  go_wp2_with fail
  refine (HPA.out F W3 HWd.out).mono ?_
  rintro e w3 ⟨rfl, F3, hw3, hk3, hf3⟩
  have HW3 := hid hw3
  have HK3 := hid (show Keeps F w w3 from (Keeps.of_bw (by rw [← hW2d]; exact Bw.drewN B2.out 1)).trans hk3)
  have HF3 := hid (show ∀ i, F3 i → F i ∨ w.heap.size ≤ i from fun i hi => (hf3 i hi).imp id fun hh => Nat.le_trans (by rw [← hW2d]; exact (Bw.drewN B2.out 1).size) hh)
  have hs2 := (HS.out W3 (by rw [← hW2d]; exact (Bw.refl W2).drewN 1)).2
  have hbl : ¬ F (w.heap.size + 1) := fun hh => by
    obtain ⟨_, _, _, _, _, h5⟩ := HW.out
    have := h5 _ hh
    omega
  have hC3 := hk3.has (show Has W3 (w.heap.size + 1) 116 _ by rw [← hW2d]; exact C2.out.drewN 1) hbl
  have c1 : w3.drew.cell? ⟨w.heap.size + 1, 1, none⟩ = some (.int .i64 ext) := hC3.drew.cell 1
  have c2 : w3.drew.cell? ⟨w.heap.size + 1, 2, none⟩ = some (.int .u32 more) := hC3.drew.cell 2
  have HWe := hid (show WrF F3 w3.drew g (k + ln) (N + rv * 2 ^ k) from hw3.keep (G := fun _ => False) (.of_bw ((Bw.refl w3).drewN 1)) fun _ _ h => h)
  have HKe := hid (show Keeps F w w3.drew from HK3.out.drewN 1)
  clear hw3 hk3 hf3 hs2 hC3
  go_wp2_with fail
  generalize hW3d : w3.drew = W4 at *
  go_still_tail 7, (by kernel_rfl)
  change wpList _ _ _ _ _ w3.drew
  rw [hW3d]
  clear c1 c2
  go_wp2_with fail
  refine (HPB.out F3 W4 HWe.out).mono ?_
  rintro e w5 ⟨rfl, h5⟩
  have H5 := hid (WPost.step HKe.out HF3.out h5)
  clear h5
  go_wp2
  go_returns
  exact ⟨rfl, H5.out⟩
end Go.Proofs.YtkmbgkcpohchhaaGreatDoor
namespace Go.Proofs.YtkmbgkcpohchhaaGreatDoor
open Go.RowKit Go.Conc
set_option linter.unusedVariables false
theorem WPost.bw {F : Nat → Prop} {g k N : Nat} {w w1 w2 : World} (h : WPost F g k N w w1) (hb : Bw w1 w2) : WPost F g k N w w2 := by
  obtain ⟨F1, h1, h2, h3⟩ := h
  exact ⟨F1, h1.keep (G := fun _ => False) (.of_bw hb) fun _ _ h => h, h2.trans (.of_bw hb), h3⟩
theorem WPost.has {F : Nat → Prop} {g k N : Nat} {w w1 : World} (h : WPost F g k N w w1) {b : Nat} {t : TypeId} {cs : Array Value} (k : Has w b t cs) (hb : ¬ F b) : Has w1 b t cs := by
  obtain ⟨F1, h1, h2, h3⟩ := h
  exact h2.has k hb
theorem symbol_at (F : Nat → Prop) (g k N lb lc ub uc len : Nat) (l : List Int) (hIC : IsCode l) (hll : Hid (l.length = len)) (idx ext more : Nat) (hi : idx < len) (hx : ext ≤ 13) (hm : more < 2 ^ ext) (hk : k ≤ 1125899906842000) (W w : World) (hc : CodeAt W lb ub l) (h1 : ¬ F lb) (h2 : ¬ F ub) (h : WPost F g k N W w) :
    Calls Tryz.prog 64 #[.pointer (some ⟨g, 0, none⟩), codeV lb lc ub uc len, .agg #[.int .i64 idx, .int .i64 ext, .int .u32 more]] w fun e w' => e = .returned (.tuple #[]) ∧ WPost F g (k + pcK (symP l ⟨idx, ext, more⟩)) (N + pcN (symP l ⟨idx, ext, more⟩) * 2 ^ k) W w' := by
  obtain ⟨F1, hw, hk1, hf⟩ := h
  refine (symbol_any F1 g k N lb lc ub uc len l hIC hll idx ext more hi hx hm hk w hw (hc.keep hk1 h1 h2) (WPost.more hf hc.l1 h1) (WPost.more hf hc.u1 h2)).mono ?_
  rintro e w' ⟨rfl, h3⟩
  exact ⟨rfl, h3.step hk1 hf⟩
def preP (L D : List Int) (ts : List TokR) (j : Nat) : List (Nat × Nat) := (ts.take j).flatMap (tokP L D)
theorem preP_succ (L D : List Int) (ts : List TokR) (j : Nat) (h : j < ts.length) : preP L D ts (j + 1) = preP L D ts j ++ tokP L D ts[j] := by
  unfold preP
  rw [List.take_succ_eq_append_getElem h, List.flatMap_append, List.flatMap_singleton]
theorem preP_all (L D : List Int) (ts : List TokR) : preP L D ts ts.length = ts.flatMap (tokP L D) := by unfold preP; rw [List.take_length]
theorem preP_le {L D : List Int} (hL : IsCode L) (hD : IsCode D) {ts : List TokR} (h : costOk ts = true) (hl : ∀ t ∈ ts, t.lit < 256) (j : Nat) : pcK (preP L D ts j) ≤ 56 * ts.length := by
  have h1 : costOk (ts.take j) = true := by
    unfold costOk at h ⊢
    rw [List.all_eq_true] at h ⊢
    exact fun x hx => h x (List.mem_of_mem_take hx)
  have h2 := toks_le hL hD (ts.take j) h1 fun t ht => hl t (List.mem_of_mem_take ht)
  have h3 : (ts.take j).length ≤ ts.length := by rw [List.length_take]; omega
  exact Nat.le_trans h2 (Nat.mul_le_mul_left 56 h3)
def TokIn (len len2 : Nat) (t : TokR) : Prop := (litY t).idx < len ∧ (isB t = false → (dstY t).idx < len2)
set_option maxRecDepth 100000 in
set_option maxHeartbeats 4000000 in
theorem tokens_any (F : Nat → Prop) (g k N lb lc ub uc len lb2 lc2 ub2 uc2 len2 : Nat) (L D : List Int) (hL : IsCode L) (hD : IsCode D) (hLl : Hid (L.length = len)) (hDl : Hid (D.length = len2)) (h256 : 256 < len)
    (a : Option Addr) (n cap : Nat) (ts : List TokR) (hts : Hid (ts.length = n)) (hn : n ≤ 1000000) (hok : costOk ts = true) (hin : ∀ t ∈ ts, TokIn len len2 t) (hk : k ≤ 562949953420000)
    (w : World) (h : WrF F w g k N) (hcL : CodeAt w lb ub L) (hcD : CodeAt w lb2 ub2 D) (f1 : ¬ F lb) (f2 : ¬ F ub) (f3 : ¬ F lb2) (f4 : ¬ F ub2) (hst : ToksAt w a ts) (fa : ∀ b o, 0 < n → a = some ⟨b, o, none⟩ → ¬ F b) :
    Calls Tryz.prog 30 #[.pointer (some ⟨g, 0, none⟩), .slice a n cap, .agg #[.slice (some ⟨lb, 0, none⟩) len lc, .slice (some ⟨ub, 0, none⟩) len uc, .slice (some ⟨lb2, 0, none⟩) len2 lc2, .slice (some ⟨ub2, 0, none⟩) len2 uc2]] w fun e w' => e = .returned (.tuple #[]) ∧ WPost F g (k + pcK (toksP L D ts)) (N + pcN (toksP L D ts) * 2 ^ k) w w' := by
  have hlit : ∀ t ∈ ts, t.lit < 256 := fun t ht => by
    obtain ⟨i, hi, rfl⟩ := List.getElem_of_mem ht
    obtain ⟨_, _, _, _, _, _, _, h⟩ := hst i hi
    exact h
  have HPL := hid (preP_le hL hD hok hlit)
  rw [hts.out] at HPL
  have hFw : ∀ i, F i → i < w.heap.size := by obtain ⟨_, _, _, _, _, h5⟩ := h; exact h5
  have HFw := hid hFw
  have HOK := hid (show ∀ t ∈ ts, tokOk t = true from List.all_eq_true.1 hok)
  have HIN := hid hin
  have HLIT := hid hlit
  have HLC := hid hL
  have HDC := hid hD
  have B1 := hid ((Bw.refl w).alloc (.cells #[.slice (some ⟨lb, 0, none⟩) len lc, .slice (some ⟨ub, 0, none⟩) len uc, .slice (some ⟨lb2, 0, none⟩) len2 lc2, .slice (some ⟨ub2, 0, none⟩) len2 uc2] 49))
  have C1 := hid (Has.new w 49 #[.slice (some ⟨lb, 0, none⟩) len lc, .slice (some ⟨ub, 0, none⟩) len uc, .slice (some ⟨lb2, 0, none⟩) len2 lc2, .slice (some ⟨ub2, 0, none⟩) len2 uc2])
  have Z1 := hid (show (w.alloc (.cells #[.slice (some ⟨lb, 0, none⟩) len lc, .slice (some ⟨ub, 0, none⟩) len uc, .slice (some ⟨lb2, 0, none⟩) len2 lc2, .slice (some ⟨ub2, 0, none⟩) len2 uc2] 49)).heap.size = w.heap.size + 1 by simp)
  have HCL := hid (hcL.bw B1.out)
  have HCD := hid (hcD.bw B1.out)
  have HST := hid (hst.below B1.out)
  have HFA := hid fa
  have HF := hid (show ¬ F lb ∧ ¬ F ub ∧ ¬ F lb2 ∧ ¬ F ub2 from ⟨f1, f2, f3, f4⟩)
  have HW := hid (show WPost F g (k + 0) (N + 0 * 2 ^ k) (w.alloc (.cells #[.slice (some ⟨lb, 0, none⟩) len lc, .slice (some ⟨ub, 0, none⟩) len uc, .slice (some ⟨lb2, 0, none⟩) len2 lc2, .slice (some ⟨ub2, 0, none⟩) len2 uc2] 49)) (w.alloc (.cells #[.slice (some ⟨lb, 0, none⟩) len lc, .slice (some ⟨ub, 0, none⟩) len uc, .slice (some ⟨lb2, 0, none⟩) len2 lc2, .slice (some ⟨ub2, 0, none⟩) len2 uc2] 49)) by
    rw [Nat.zero_mul, Nat.add_zero, Nat.add_zero]
    exact WPost.refl (h.keep (G := fun _ => False) (.of_bw B1.out) fun _ _ h => h))
  clear hlit hFw hok hin hL hD hcL hcD hst fa f1 f2 f3 f4 h
  go_enter Tryz.func30, Tryz.ntmps30
  go_wp2_with fail
  generalize w.alloc (.cells #[.slice (some ⟨lb, 0, none⟩) len lc, .slice (some ⟨ub, 0, none⟩) len uc, .slice (some ⟨lb2, 0, none⟩) len2 lc2, .slice (some ⟨ub2, 0, none⟩) len2 uc2] 49) = W1 at *
  go_loopw [10] (fun i wr => ∃ j : Nat, j ≤ n ∧ i = .int .i64 j ∧ WPost F g (k + pcK (preP L D ts j)) (N + pcN (preP L D ts j) * 2 ^ k) W1 wr) (fun i _ => n - (intOf i).toNat)
  case atStart => exact ⟨0, Nat.zero_le _, rfl, HW.out⟩
  case round =>
    rename_i wr
    obtain ⟨j, hj, rfl, hw⟩ := hrel
    by_cases hlt : j < n
    · have hlti : (j : Int) < n := by omega
      have hjl : j < ts.length := by rw [hts.out]; exact hlt
      obtain ⟨F1, hw1, hk1, hf1⟩ := hw
      have hpl := HPL.out j
      obtain ⟨ab, aoff, rfl, hab, c0, c1, c2, hv⟩ := HST.out j hjl
      have hnab := HFA.out ab aoff (by omega) rfl
      have hbl := hk1.block ab hab hnab
      have d0 : wr.cell? ⟨ab, aoff + j * 3, none⟩ = _ := (World.cell?_of_block hbl).trans c0
      have d1 : wr.cell? ⟨ab, aoff + j * 3 + 1, none⟩ = _ := (World.cell?_of_block hbl).trans c1
      have d2 : wr.cell? ⟨ab, aoff + j * 3 + 2, none⟩ = _ := (World.cell?_of_block hbl).trans c2
      have HSUC := hid (preP_succ L D ts j hjl)
      have htok := HOK.out ts[j] (List.getElem_mem hjl)
      have hTI := HIN.out ts[j] (List.getElem_mem hjl)
      generalize ts[j] = t at *
      generalize preP L D ts j = pj at *
      have HLI := hid (fun W => literal_ok t htok hv W)
      have HDI := hid (fun (hm : isM t = true) W => distance_ok t hm W)
      obtain ⟨l1, l2, l3⟩ := litY_ok htok hv
      have hyt := hTI.1
      have HTP := hid (show tokP L D t = symP L (litY t) ++ if isB t then [] else symP D (dstY t) from rfl)
      have HDY := hid (fun (hm : isM t = true) => dstY_ok hm)
      have HTI := hid hTI.2
      have HMB := hid htok
      obtain ⟨yi, yx, ym, hY⟩ : ∃ i x m, litY t = ⟨i, x, m⟩ := ⟨_, _, _, rfl⟩
      obtain ⟨zi, zx, zm, hZ⟩ : ∃ i x m, dstY t = ⟨i, x, m⟩ := ⟨_, _, _, rfl⟩
      rw [hY] at l1 l2 l3 hyt
      rw [hY] at HLI HTP
      rw [hZ] at HDI HTP HDY HTI
      obtain ⟨x0, x1, x2⟩ := t
      clear hY hZ hTI
      -- the token's own block, and what lies in this round
      obtain ⟨W2, hW2⟩ : ∃ W2, wr.alloc (.cells #[.int .u8 x0, .int .i64 x1, .int .i64 x2] 29) = W2 := ⟨_, rfl⟩
      have HB2 : Hid (Bw wr W2) := hid (by rw [← hW2]; exact (Bw.refl wr).alloc _)
      have HT2 : Hid (Has W2 wr.heap.size 29 #[.int .u8 x0, .int .i64 x1, .int .i64 x2]) := hid (by rw [← hW2]; exact Has.new wr _ _)
      have hF1 : ∀ i, F1 i → i < wr.heap.size := by obtain ⟨_, _, _, _, _, h5⟩ := hw1; exact h5
      have hbx : ¬ F1 w.heap.size := fun hh => by
        rcases hf1 _ hh with h | h
        · have := HFw.out _ h; omega
        · have := Z1.out; omega
      have HX2 : Hid (Has W2 w.heap.size 49 #[.slice (some ⟨lb, 0, none⟩) len lc, .slice (some ⟨ub, 0, none⟩) len uc, .slice (some ⟨lb2, 0, none⟩) len2 lc2, .slice (some ⟨ub2, 0, none⟩) len2 uc2]) := hid (HB2.out.has (hk1.has C1.out fun h => by have := HFw.out _ h; omega))
      have HP0 : Hid (WPost F1 g (k + pcK pj) (N + pcN pj * 2 ^ k) W2 W2) := hid (WPost.refl (hw1.keep (G := fun _ => False) (.of_bw HB2.out) fun _ _ h => h))
      have HSS : Hid (∀ V k' N', WPost F1 g k' N' W2 V → V.cell? ⟨w.heap.size, 0, none⟩ = some (.slice (some ⟨lb, 0, none⟩) len lc) ∧ V.cell? ⟨w.heap.size, 1, none⟩ = some (.slice (some ⟨ub, 0, none⟩) len uc) ∧ V.cell? ⟨wr.heap.size, 0, none⟩ = some (.int .u8 x0) ∧ V.cell? ⟨wr.heap.size, 1, none⟩ = some (.int .i64 x1) ∧ V.cell? ⟨wr.heap.size, 2, none⟩ = some (.int .i64 x2)) := hid fun V k' N' hp => by
        have h1 := hp.has HX2.out hbx
        have h2 := hp.has HT2.out fun h => by have := hF1 _ h; omega
        exact ⟨h1.cell 0, h1.cell 1, h2.cell 0, h2.cell 1, h2.cell 2⟩
      have HSD : Hid (∀ V k' N', WPost F1 g k' N' W2 V → V.cell? ⟨w.heap.size, 2, none⟩ = some (.slice (some ⟨lb2, 0, none⟩) len2 lc2) ∧ V.cell? ⟨w.heap.size, 3, none⟩ = some (.slice (some ⟨ub2, 0, none⟩) len2 uc2) ∧ V.cell? ⟨wr.heap.size, 0, none⟩ = some (.int .u8 x0) ∧ V.cell? ⟨wr.heap.size, 1, none⟩ = some (.int .i64 x1) ∧ V.cell? ⟨wr.heap.size, 2, none⟩ = some (.int .i64 x2)) := hid fun V k' N' hp => by
        have h1 := hp.has HX2.out hbx
        have h2 := hp.has HT2.out fun h => by have := hF1 _ h; omega
        exact ⟨h1.cell 2, h1.cell 3, h2.cell 0, h2.cell 1, h2.cell 2⟩
      have hcL := (HCL.out.keep hk1 HF.out.1 HF.out.2.1).bw HB2.out
      have hcD := (HCD.out.keep hk1 HF.out.2.2.1 HF.out.2.2.2).bw HB2.out
      have g1 := WPost.more hf1 HCL.out.l1 HF.out.1
      have g2 := WPost.more hf1 HCL.out.u1 HF.out.2.1
      have g3 := WPost.more hf1 HCD.out.l1 HF.out.2.2.1
      have g4 := WPost.more hf1 HCD.out.u1 HF.out.2.2.2
      have HSY := hid (fun V hp => symbol_at F1 g (k + pcK pj) (N + pcN pj * 2 ^ k) lb lc ub uc len L HLC.out hLl yi yx ym hyt (by have : yx ≤ 5 := l2; omega) l3 (by omega) W2 V hcL g1 g2 hp)
      have hk2 : k + pcK pj + pcK (symP L ⟨yi, yx, ym⟩) ≤ 1125899906842000 := by have := symP_le HLC.out (s := ⟨yi, yx, ym⟩) (by have : yx ≤ 5 := l2; show yx ≤ 13; omega); omega
      have HE1 := hid (show k + pcK pj + pcK (symP L ⟨yi, yx, ym⟩) = k + pcK (pj ++ symP L ⟨yi, yx, ym⟩) ∧ N + pcN pj * 2 ^ k + pcN (symP L ⟨yi, yx, ym⟩) * 2 ^ (k + pcK pj) = N + pcN (pj ++ symP L ⟨yi, yx, ym⟩) * 2 ^ k from ⟨by rw [pcK_app]; omega, pcN_at N k pj _⟩)
      rw [HE1.out.1] at hk2
      have HSZ := hid (fun (hi : zi < len2) (hx : zx ≤ 13) (hm : zm < 2 ^ zx) V hp => symbol_at F1 g (k + pcK (pj ++ symP L ⟨yi, yx, ym⟩)) (N + pcN (pj ++ symP L ⟨yi, yx, ym⟩) * 2 ^ k) lb2 lc2 ub2 uc2 len2 D HDC.out hDl zi zx zm hi hx hm hk2 W2 V hcD g3 g4 hp)
      have HE2 := hid (show k + pcK (pj ++ symP L ⟨yi, yx, ym⟩) + pcK (symP D ⟨zi, zx, zm⟩) = k + pcK (pj ++ symP L ⟨yi, yx, ym⟩ ++ symP D ⟨zi, zx, zm⟩) ∧ N + pcN (pj ++ symP L ⟨yi, yx, ym⟩) * 2 ^ k + pcN (symP D ⟨zi, zx, zm⟩) * 2 ^ (k + pcK (pj ++ symP L ⟨yi, yx, ym⟩)) = N + pcN (pj ++ symP L ⟨yi, yx, ym⟩ ++ symP D ⟨zi, zx, zm⟩) * 2 ^ k from ⟨by rw [pcK_app (pj ++ symP L ⟨yi, yx, ym⟩)]; omega, pcN_at N k _ _⟩)
      have HK2 := hid (show Keeps F W1 W2 from hk1.trans (.of_bw HB2.out))
      have HFF := hid hf1
      generalize hN1 : N + pcN (pj ++ symP L ⟨yi, yx, ym⟩) * 2 ^ k = N1 at *
      generalize hK1 : k + pcK (pj ++ symP L ⟨yi, yx, ym⟩) = K1 at *
      generalize N + pcN pj * 2 ^ k = N0 at *
      generalize k + pcK pj = K0 at *
      clear hk1 hf1 hw1 hcL hcD g1 g2 g3 g4 hk2 hF1 hbx htok l1 l2 l3 hyt hpl c0 c1 c2 hv hbl hnab hab
      go_wp2_with fail
      clear hW2 d0 d1 d2
      have HPd := hid (HP0.out.bw ((Bw.refl W2).drewN 1))
      go_region_held3 (fun W => W.cell? ⟨w.heap.size, 0, none⟩ = some (.slice (some ⟨lb, 0, none⟩) len lc) ∧ W.cell? ⟨w.heap.size, 1, none⟩ = some (.slice (some ⟨ub, 0, none⟩) len uc) ∧ W.cell? ⟨wr.heap.size, 0, none⟩ = some (.int .u8 x0) ∧ W.cell? ⟨wr.heap.size, 1, none⟩ = some (.int .i64 x1) ∧ W.cell? ⟨wr.heap.size, 2, none⟩ = some (.int .i64 x2))
        (first | exact HSS.out _ _ _ HPd.out | exact HSS.out _ _ _ HP2.out | exact HSS.out _ _ _ HP3.out)
        (first
          | (go_at_call 56; refine (HLI.out _).mono ?_; rintro e w2 ⟨rfl, hb2⟩; have HP2 := hid (HPd.out.bw hb2); clear hb2)
          | (go_at_call 64; refine (HSY.out _ HP2.out).mono ?_; rintro e w3 ⟨rfl, hp3⟩; have HP3 := hid hp3; clear hp3))
      have y2 := (HSS.out _ _ _ HP3.out).2.2.2.2
      have hts2 : ts.length = n := hts.out
      rw [HE1.out.1, HE1.out.2] at HP3
      cases hb : isB ⟨x0, x1, x2⟩ with
      | true =>
        obtain ⟨h2, h1⟩ := isB_iff.1 hb
        simp only at h1 h2
        subst h1 h2
        rw [hb, if_pos rfl, List.append_nil] at HTP
        have HR := hid (WPost.step HK2.out HFF.out HP3.out)
        clear hb
        go_wp2
        go_roundw
        case rel => exact ⟨j + 1, by omega, by go_num, by rw [HSUC.out, HTP.out, hK1, hN1]; exact HR.out⟩
        case measure => simp [intOf]; omega
      | false =>
        have hm : isM ⟨x0, x1, x2⟩ = true := by
          have := HMB.out
          simpa [tokOk, hb] using this
        have h1 := (isM_iff.1 hm).1
        simp only at h1
        have h1d : decide (0 < x2) = true := decide_eq_true (by omega)
        obtain ⟨zl1, zl2, zl3⟩ := HDY.out hm
        have HSZ := hid (HSZ.out (HTI.out hb) zl2 zl3)
        have HDI := hid (HDI.out hm)
        rw [hb, if_neg (by simp)] at HTP
        clear hb hm
        go_wp2_with fail
        have HPe := hid (HP3.out.bw ((Bw.refl w3).drewN 1))
        go_region_held3 (fun W => W.cell? ⟨w.heap.size, 2, none⟩ = some (.slice (some ⟨lb2, 0, none⟩) len2 lc2) ∧ W.cell? ⟨w.heap.size, 3, none⟩ = some (.slice (some ⟨ub2, 0, none⟩) len2 uc2) ∧ W.cell? ⟨wr.heap.size, 0, none⟩ = some (.int .u8 x0) ∧ W.cell? ⟨wr.heap.size, 1, none⟩ = some (.int .i64 x1) ∧ W.cell? ⟨wr.heap.size, 2, none⟩ = some (.int .i64 x2))
          (first | exact HSD.out _ _ _ HPe.out | exact HSD.out _ _ _ HP4.out | exact HSD.out _ _ _ HP5.out)
          (first
            | (go_at_call 57; refine (HDI.out _).mono ?_; rintro e w4 ⟨rfl, hb4⟩; have HP4 := hid (HPe.out.bw hb4); clear hb4)
            | (go_at_call 64; refine (HSZ.out _ HP4.out).mono ?_; rintro e w5 ⟨rfl, hp5⟩; have HP5 := hid hp5; clear hp5))
        rw [HE2.out.1, HE2.out.2] at HP5
        have HR := hid (WPost.step HK2.out HFF.out HP5.out)
        go_wp2
        go_roundw
        case rel => exact ⟨j + 1, by omega, by go_num, by rw [HSUC.out, HTP.out, ← List.append_assoc]; exact HR.out⟩
        case measure => simp [intOf]; omega
    · obtain rfl : j = n := by omega
      have HPD := hid (hw.bw ((Bw.refl wr).drewN 1))
      have HPA := hid (preP_all L D ts)
      rw [hts.out] at HPA
      have hb : ¬ F w.heap.size := fun hh => absurd (HFw.out _ hh) (Nat.lt_irrefl w.heap.size)
      have hX := hw.has C1.out hb
      have q0 := hX.cell 0
      have q1 := hX.cell 1
      have hpl := HPL.out j
      have HSY := hid (fun V hp => symbol_at F g (k + pcK (preP L D ts j)) (N + pcN (preP L D ts j) * 2 ^ k) lb lc ub uc len L HLC.out hLl 256 0 0 h256 (by decide) (by decide) (by omega) W1 V HCL.out HF.out.1 HF.out.2.1 hp)
      have HE := hid (show k + pcK (preP L D ts j) + pcK (symP L ⟨256, 0, 0⟩) = k + pcK (toksP L D ts) ∧ N + pcN (preP L D ts j) * 2 ^ k + pcN (symP L ⟨256, 0, 0⟩) * 2 ^ (k + pcK (preP L D ts j)) = N + pcN (toksP L D ts) * 2 ^ k by
        rw [HPA.out]
        exact ⟨by unfold toksP; rw [pcK_app]; omega, pcN_at N k _ _⟩)
      have HW0 := hid hw
      clear hX hpl hb hw
      go_wp2_with fail
      refine (HSY.out _ HW0.out).mono ?_
      rintro e w5 ⟨rfl, h5⟩
      rw [HE.out.1, HE.out.2] at h5
      have H5 := hid (WPost.step (.of_bw B1.out) (fun i hi => .inl hi) h5)
      clear h5
      go_wp2
      go_returns
      exact ⟨rfl, H5.out⟩
end Go.Proofs.YtkmbgkcpohchhaaGreatDoor
namespace Go.Proofs.YtkmbgkcpohchhaaGreatDoor
open Go.RowKit Go.Conc
set_option linter.unusedVariables false
def stoL (c : List UInt8) : List UInt8 := if h : c.length ≤ 65535 then blkB true c else blkB false (c.take 65535) ++ stoL (c.drop 65535)
termination_by c.length
decreasing_by rw [List.length_drop]; omega
theorem stoL_last {c : List UInt8} (h : c.length ≤ 65535) : stoL c = blkB true c := by rw [stoL, dif_pos h]
theorem stoL_more {c : List UInt8} (h : ¬ c.length ≤ 65535) : stoL c = blkB false (c.take 65535) ++ stoL (c.drop 65535) := by rw [stoL, dif_neg h]
theorem ext_take (t : ByteArray) (n : Nat) : (t.extract 0 n).data.toList = t.data.toList.take n := by simp
theorem size_list (t : ByteArray) : t.data.toList.length = t.size := by simp
theorem ext_drop (t : ByteArray) (n : Nat) : (t.extract n t.size).data.toList = t.data.toList.drop n := by
  simp only [ByteArray.data_extract, Array.toList_extract, List.extract_eq_take_drop]
  exact List.take_of_length_le (by rw [List.length_drop, size_list]; exact Nat.le_refl _)
def strSz : Value → Nat
  | .string s => s.size
  | _ => 0
theorem stoL_len : ∀ (m : Nat) (c : List UInt8), c.length ≤ m → (stoL c).length ≤ c.length + 5 * (c.length / 65535 + 1)
  | m, c, hm => by
    by_cases h : c.length ≤ 65535
    · rw [stoL_last h, blkB_len]; omega
    · rw [stoL_more h, List.length_append, blkB_len, List.length_take]
      have hd : (c.drop 65535).length = c.length - 65535 := List.length_drop
      match m with
      | 0 => omega
      | m + 1 =>
        have ih := stoL_len m (c.drop 65535) (by omega)
        rw [hd] at ih
        omega
set_option maxRecDepth 100000 in
set_option maxHeartbeats 4000000 in
theorem Stored_any (s : ByteArray) (hs : s.size ≤ 1000000) (w : World) :
    Calls Tryz.prog 25 #[.string s] w fun e w' => e = .returned (.string ⟨(stoL s.data.toList).toArray⟩) ∧ Bw w w' := by
  go_enter Tryz.func25, Tryz.ntmps25
  go_wp2_with fail
  have HF := hid (WrF.fresh (Has.new w 57 #[.int .i64 0, .slice none 0 0, .int .u8 0]))
  have HB0 := hid ((Bw.refl w).alloc (.cells #[.int .i64 0, .slice none 0 0, .int .u8 0] 57))
  have HZ := hid (show (w.alloc (.cells #[.int .i64 0, .slice none 0 0, .int .u8 0] 57)).heap.size = w.heap.size + 1 by simp)
  generalize w.alloc (.cells #[.int .i64 0, .slice none 0 0, .int .u8 0] 57) = W1 at *
  obtain ⟨g, hg⟩ : ∃ g, w.heap.size = g := ⟨_, rfl⟩
  rw [hg] at HF HZ ⊢
  have HG := hid hg
  clear hg
  go_loopw [0] (fun vs wr => ∃ (L : List UInt8) (t : ByteArray), vs = .string t ∧ L ++ stoL t.data.toList = stoL s.data.toList ∧ t.size ≤ s.size ∧ WPost (· = g) g (8 * L.length) (leN L) W1 wr) (fun vs _ => strSz vs)
  case atStart => exact ⟨[], s, rfl, rfl, Nat.le_refl _, WPost.refl HF.out⟩
  case round =>
    obtain ⟨L, t, rfl, hL, hts, hw⟩ := hrel
    rename World => wr
    have hlen := congrArg List.length hL
    have hsl := stoL_len _ _ (Nat.le_refl s.data.toList.length)
    rw [List.length_append] at hlen
    rw [size_list] at hsl
    have hLn : L.length ≤ 2000000 := by omega
    obtain ⟨F1, hw1, hk1, hf1⟩ := hw
    have HW1 := hid hw1
    have HK1 := hid hk1
    have HF1 := hid hf1
    have HL := hid hL
    clear hw1 hk1 hf1 hL hlen hsl
    by_cases hlt : 65535 < t.size
    · have hlti : (65535 : Int) < t.size := by omega
      have hz : (t.extract 0 65535).size = 65535 := by simp; omega
      have HC := hid (stored_any F1 g L.length (leN L) (by omega) (t.extract 0 65535) (by omega) false wr HW1.out)
      have e1 := lay_blk L (t.data.toList.take 65535) false (by rw [List.length_take]; omega)
      have e2 : (t.data.toList.take 65535).length = 65535 := by rw [List.length_take, size_list]; omega
      rw [e2] at e1
      rw [hz, ext_take, e1] at HC
      have HLL := hid (show L.length + (5 + 65535) = (L ++ blkB false (t.data.toList.take 65535)).length by rw [List.length_append, blkB_len, e2])
      rw [HLL.out] at HC
      have HNX := hid (show (L ++ blkB false (t.data.toList.take 65535)) ++ stoL (t.extract 65535 t.size).data.toList = stoL s.data.toList by
        rw [ext_drop, ← HL.out, stoL_more (c := t.data.toList) (by rw [size_list]; omega), List.append_assoc])
      have HTZ := hid (show (t.extract 65535 t.size).size = t.size - 65535 by simp)
      clear e1 e2 hz
      go_wp2_with fail
      refine HC.out.mono ?_
      rintro e w2 ⟨rfl, h2⟩
      have H2 := hid (WPost.step HK1.out HF1.out h2)
      clear h2
      go_wp2
      refine ⟨⟨_, _, rfl, HNX.out, by rw [HTZ.out]; omega, H2.out⟩, ?_⟩
      show (t.extract 65535 t.size).size < t.size
      rw [HTZ.out]; omega
    · have hlti : ¬ (65535 : Int) < t.size := by omega
      have HC := hid (stored_any F1 g L.length (leN L) (by omega) t (by omega) true wr HW1.out)
      have e1 := lay_blk L t.data.toList true (by rw [size_list]; omega)
      rw [size_list] at e1
      rw [e1] at HC
      have HE := hid (show L ++ blkB true t.data.toList = stoL s.data.toList by rw [← HL.out, stoL_last (by rw [size_list]; omega)])
      have HLL := hid (show L.length + (5 + t.size) = (L ++ blkB true t.data.toList).length by rw [List.length_append, blkB_len, size_list])
      rw [HLL.out, HE.out] at HC
      have hSL : (stoL s.data.toList).length ≤ 2000000 := by
        have hsl := stoL_len _ _ (Nat.le_refl s.data.toList.length)
        rw [size_list] at hsl; omega
      clear e1
      go_wp2_with fail
      refine HC.out.mono ?_
      rintro e w2 ⟨rfl, h2⟩
      obtain ⟨F2, hw2, hk2, hf2⟩ := WPost.step HK1.out HF1.out h2
      have HS := hid (wstr_any F2 g (8 * (stoL s.data.toList).length) (leN (stoL s.data.toList)) (by omega) w2 hw2)
      rw [show (8 * (stoL s.data.toList).length + 7) / 8 = (stoL s.data.toList).length by omega, strN_leN] at HS
      have HK2 := hid hk2
      have HF2 := hid hf2
      clear h2 hw2 hk2 hf2
      go_wp2_with fail
      refine HS.out.mono ?_
      rintro e w3 ⟨rfl, hb3⟩
      have HB3 := hid (show Bw w w3 from (show Bw w w2 from Below.trans HB0.out (HK2.out.below (B := w.heap.size) (by rw [HG.out, HZ.out]; omega) (fun i hi => by rw [HG.out]; omega))).trans hb3)
      clear hb3
      go_wp2
      go_returns
      exact ⟨rfl, HB3.out⟩
end Go.Proofs.YtkmbgkcpohchhaaGreatDoor
namespace Go.Proofs.YtkmbgkcpohchhaaGreatDoor
open Go.RowKit
set_option linter.unusedVariables false
set_option maxHeartbeats 400000 in
theorem isByte_any (x0 : Nat) (x1 x2 : Int) (w : World) :
    Calls Tryz.prog 85 #[.agg #[.int .u8 x0, .int .i64 x1, .int .i64 x2]] w fun e w' => e = .returned (.bool (isB ⟨x0, x1, x2⟩)) ∧ Bw w w' := by
  have hb : isB ⟨x0, x1, x2⟩ = (decide (x2 = 0) && decide (x1 = 0)) := by unfold isB; simp
  have HB := hid hb
  clear hb
  by_cases h2 : x2 = 0
  · subst h2
    go_enter Tryz.func85, Tryz.ntmps85
    go_wp2
    all_goals (go_returns; refine ⟨ret_bool ?_, by unfold Bw; go_grown⟩; rw [HB.out, Bool.eq_iff_iff]; simp)
  · have t0 : (x2 == 0) = false := by simpa using h2
    have HF := hid (show isB ⟨x0, x1, x2⟩ = false by rw [HB.out, decide_eq_false h2]; rfl)
    clear h2 HB
    go_enter Tryz.func85, Tryz.ntmps85
    go_wp2
    go_returns
    exact ⟨ret_bool HF.out.symm, by unfold Bw; go_grown⟩
set_option maxHeartbeats 1000000 in
theorem isMatch_any (x0 : Nat) (x1 x2 : Int) (w : World) :
    Calls Tryz.prog 87 #[.agg #[.int .u8 x0, .int .i64 x1, .int .i64 x2]] w fun e w' => e = .returned (.bool (isM ⟨x0, x1, x2⟩)) ∧ Bw w w' := by
  have hb : isM ⟨x0, x1, x2⟩ = decide (1 ≤ x2 ∧ x2 ≤ 32768 ∧ 3 ≤ x1 ∧ x1 ≤ 258 ∧ x0 = 0) := rfl
  have HB := hid hb
  clear hb
  by_cases h1 : 1 ≤ x2
  · by_cases h2 : x2 ≤ 32768
    · by_cases h3 : 3 ≤ x1
      · by_cases h4 : x1 ≤ 258
        · have HF := hid (show isM ⟨x0, x1, x2⟩ = decide (x0 = 0) by rw [HB.out]; simp [h1, h2, h3, h4])
          clear HB
          go_enter Tryz.func87, Tryz.ntmps87
          go_wp2
          go_returns
          refine ⟨ret_bool ?_, by unfold Bw; go_grown⟩
          rw [HF.out, Bool.eq_iff_iff]; simp
        · have HF := hid (show isM ⟨x0, x1, x2⟩ = false by rw [HB.out]; exact decide_eq_false (by omega))
          clear HB
          go_enter Tryz.func87, Tryz.ntmps87
          go_wp2
          go_returns
          exact ⟨ret_bool HF.out.symm, by unfold Bw; go_grown⟩
      · have HF := hid (show isM ⟨x0, x1, x2⟩ = false by rw [HB.out]; exact decide_eq_false (by omega))
        clear HB
        go_enter Tryz.func87, Tryz.ntmps87
        go_wp2
        go_returns
        exact ⟨ret_bool HF.out.symm, by unfold Bw; go_grown⟩
    · have HF := hid (show isM ⟨x0, x1, x2⟩ = false by rw [HB.out]; exact decide_eq_false (by omega))
      clear HB
      go_enter Tryz.func87, Tryz.ntmps87
      go_wp2
      go_returns
      exact ⟨ret_bool HF.out.symm, by unfold Bw; go_grown⟩
  · have HF := hid (show isM ⟨x0, x1, x2⟩ = false by rw [HB.out]; exact decide_eq_false (by omega))
    clear HB
    go_enter Tryz.func87, Tryz.ntmps87
    go_wp2
    go_returns
    exact ⟨ret_bool HF.out.symm, by unfold Bw; go_grown⟩
end Go.Proofs.YtkmbgkcpohchhaaGreatDoor
namespace Go.Proofs.YtkmbgkcpohchhaaGreatDoor
open Go.Shelf
def lays125_ren : Go.Shelf.Ren := ⟨fun | 125 => 114 | 128 => 134 | 129 => 135 | n => n, fun | 46 => 134 | 3 => 3 | 51 => 38 | 53 => 100 | 4 => 4 | 5 => 5 | 9 => 9 | n => n, fun | n => n⟩
theorem lays125 : Go.Proofs.Lays.n125 Tryz.prog lays125_ren := {
  mixed := by kernel_rfl
  f125 := Tryz.func114.trans (congrArg some (by kernel_rfl))
  f128 := Tryz.func134.trans (congrArg some (by kernel_rfl))
  f129 := Tryz.func135.trans (congrArg some (by kernel_rfl))
  t3 := Tryz.underlying3
  a3 := Tryz.isAgg3
  z3 := Tryz.sizeOf3
  v3 := Tryz.zeroValue3
  t4 := Tryz.underlying4
  a4 := Tryz.isAgg4
  z4 := Tryz.sizeOf4
  v4 := Tryz.zeroValue4
  t5 := Tryz.underlying5
  a5 := Tryz.isAgg5
  z5 := Tryz.sizeOf5
  v5 := Tryz.zeroValue5
  t9 := Tryz.underlying9
  a9 := Tryz.isAgg9
  z9 := Tryz.sizeOf9
  v9 := Tryz.zeroValue9
  t46 := Tryz.underlying134
  a46 := Tryz.isAgg134
  z46 := Tryz.sizeOf134
  v46 := Tryz.zeroValue134
  t51 := Tryz.underlying38
  a51 := Tryz.isAgg38
  z51 := Tryz.sizeOf38
  v51 := Tryz.zeroValue38
  t53 := Tryz.underlying100
  a53 := Tryz.isAgg100
  z53 := Tryz.sizeOf100
  v53 := Tryz.zeroValue100 }
theorem bits_Len (x : Int) (w : World) (h0 : 0 ≤ x) (h1 : x ≤ 18446744073709551615) :
    Calls Tryz.prog 114 #[.int .u64 x] w fun e w' => e = .returned (.int .i64 (Lib.bitLen x.toNat)) ∧ w' = w := Any.bits_Len lays125 x w h0 h1
end Go.Proofs.YtkmbgkcpohchhaaGreatDoor
namespace Go.Proofs.YtkmbgkcpohchhaaGreatDoor
open Go.RowKit
set_option linter.unusedVariables false
theorem byteCost_any (x : Nat) (w : World) :
    Calls Tryz.prog 86 #[.int .u8 x] w fun e w' => e = .returned (.int .i64 (litC x)) ∧ w' = w := by
  by_cases h : x < 144
  · have HF := hid (show litC x = 8 from if_pos h)
    have h' : (x : Int) < 144 := by omega
    go_enter Tryz.func86, Tryz.ntmps86
    go_wp2
    go_returns
    exact ⟨by rw [HF.out]; rfl, rfl⟩
  · have HF := hid (show litC x = 9 from if_neg h)
    have h' : ¬ (x : Int) < 144 := by omega
    go_enter Tryz.func86, Tryz.ntmps86
    go_wp2
    go_returns
    exact ⟨by rw [HF.out]; rfl, rfl⟩
theorem blen_any (x : Nat) (h1 : x ≤ 32768) (w : World) :
    Calls Tryz.prog 114 #[.int .u64 x] w fun e w' => e = .returned (.int .i64 (Lib.bitLen x)) ∧ w' = w := by
  have := bits_Len (x : Int) w (by omega) (by omega)
  rwa [Int.toNat_natCast] at this
theorem blen_le (x : Nat) (h : x ≤ 32768) : Lib.bitLen x ≤ 16 := by
  rcases Nat.lt_or_ge x 32768 with h1 | h1
  · by_cases h0 : x = 0
    · subst h0; decide
    · have h2 : 2 ^ Nat.log2 x ≤ x := Nat.log2_self_le h0
      have h3 : x < 2 ^ (Nat.log2 x + 1) := Nat.lt_log2_self
      have h4 : Nat.log2 x < 15 := (Nat.log2_lt h0).2 h1
      rw [bitLen_of x (Nat.log2 x) h2 h3 (by omega)]; omega
  · obtain rfl : x = 32768 := by omega
    decide
set_option maxHeartbeats 1000000 in
theorem extra_any (n : Nat) (h0 : 1 ≤ n) (h1 : n ≤ 32768) (w : World) :
    Calls Tryz.prog 89 #[.int .i64 n] w fun e w' => e = .returned (.int .i64 (distX n)) ∧ w' = w := by
  obtain ⟨m, rfl⟩ : ∃ m, n = m + 1 := ⟨n - 1, by omega⟩
  have HL := hid (fun W => blen_any m (by omega) W)
  have hb := blen_le m (by omega)
  have HX := hid (show distX (m + 1) = if Lib.bitLen m - 2 ≤ 0 then 0 else Lib.bitLen m - 2 from rfl)
  generalize Lib.bitLen m = b at *
  have e1 : ((m + 1 : Nat) : Int) - 1 = m := by omega
  have E1 := hid e1
  go_enter Tryz.func89, Tryz.ntmps89
  go_wp2_with fail
  refine (HL.out _).mono ?_
  rintro e w1 ⟨rfl, hw1⟩
  go_wp2
  go_returns
  refine ⟨?_, rfl⟩
  rw [HX.out]
  show Ending.returned (.int .i64 _) = _
  congr 2
  split <;> omega
set_option maxRecDepth 100000 in
set_option maxHeartbeats 1000000 in
theorem lenCost_any (n : Nat) (h0 : 3 ≤ n) (h1 : n ≤ 258) (w : World) :
    Calls Tryz.prog 88 #[.int .i64 n] w fun e w' => e = .returned (.int .i64 (lenC n)) ∧ w' = w := by
  obtain ⟨m, rfl⟩ : ∃ m, n = m + 3 := ⟨n - 3, by omega⟩
  have HL := hid (fun W => blen_any m (by omega) W)
  have hb := blen_le m (by omega)
  have HX := hid (show lenC (m + 3) = (if 115 ≤ m + 3 then 8 else 7) + if m + 3 < 258 then Lib.bitLen m - 3 else 0 from rfl)
  generalize Lib.bitLen m = b at *
  have E1 := hid (show ((m + 3 : Nat) : Int) - 3 = m by omega)
  by_cases h2 : 115 ≤ m + 3
  · by_cases h3 : m + 3 < 258
    · have HX2 := hid (show lenC (m + 3) = 8 + (b - 3) by rw [HX.out, if_pos h2, if_pos h3])
      have e1 : ((m + 3 : Nat) : Int) - 3 = m := by omega
      clear HX
      go_enter Tryz.func88, Tryz.ntmps88
      go_wp2_with fail
      refine (HL.out _).mono ?_
      rintro e w1 ⟨rfl, hw1⟩
      go_wp2
      go_returns
      refine ⟨?_, rfl⟩
      rw [HX2.out]
      show Ending.returned (.int .i64 _) = _
      congr 2
      omega
    · have HX2 := hid (show lenC (m + 3) = 8 + 0 by rw [HX.out, if_pos h2, if_neg h3])
      clear HX
      go_enter Tryz.func88, Tryz.ntmps88
      go_wp2
      go_returns
      exact ⟨by rw [HX2.out]; rfl, rfl⟩
  · have h3 : m + 3 < 258 := by omega
    have HX2 := hid (show lenC (m + 3) = 7 + (b - 3) by rw [HX.out, if_neg h2, if_pos h3])
    have e1 : ((m + 3 : Nat) : Int) - 3 = m := by omega
    clear HX
    go_enter Tryz.func88, Tryz.ntmps88
    go_wp2_with fail
    refine (HL.out _).mono ?_
    rintro e w1 ⟨rfl, hw1⟩
    go_wp2
    go_returns
    refine ⟨?_, rfl⟩
    rw [HX2.out]
    show Ending.returned (.int .i64 _) = _
    congr 2
    omega
theorem bw_alloc3 {w w' : World} (h : Bw w w') (cs : Array Value) (t : TypeId) : Bw w (w'.alloc (.cells cs t)) := h.alloc _
set_option maxRecDepth 100000 in
set_option maxHeartbeats 4000000 in
theorem cost_any (a : Option Addr) (len cap : Nat) (hlen : len ≤ 1000000) (l : List TokR) (hll : Hid (l.length = len)) (w : World) (hst : ToksAt w a l) :
    Calls Tryz.prog 55 #[.slice a len cap] w fun e w' => e = .returned (.tuple #[.int .i64 (costV l), .int .i64 (costE l)]) ∧ Bw w w' := by
  have HST := hid hst
  clear hst
  go_enter Tryz.func55, Tryz.ntmps55
  go_wp2
  go_loopw [4, 9] (fun c i wr => ∃ k : Nat, k ≤ len ∧ i = .int .i64 k ∧ c = .int .i64 (costGo (l.take k)) ∧ Hid (costOk (l.take k) = true) ∧ Bw w wr) (fun _ i _ => len - (intOf i).toNat)
  case atStart => exact ⟨0, Nat.zero_le _, rfl, rfl, hid rfl, Bw.refl w⟩
  case round =>
    rename_i wr
    obtain ⟨k, hk, rfl, rfl, HOK, hbw⟩ := hrel
    have hcl := costGo_le _ HOK.out
    have HBW := hid hbw
    by_cases hlt : k < len
    · have hkl : k < l.length := by rw [hll.out]; exact hlt
      have hk1 : (k : Int) < len := by omega
      obtain ⟨b, off, rfl, hb, c0, c1, c2, hv⟩ := HST.out.below hbw k hkl
      have HN := hid (costGo_next hkl)
      have HO := hid (costOk_next hkl HOK.out)
      have HBAD := hid (fun h => costOk_bad hkl h)
      have hll2 : (l.take k).length ≤ 1000000 := by rw [List.length_take]; omega
      have hcl2 : costGo (l.take k) ≤ 31000007 := by have := hcl.2; omega
      have hcl1 := hcl.1
      generalize costGo (l.take k) = c at *
      obtain ⟨x0, x1, x2, hx⟩ : ∃ x0 x1 x2, l[k] = ⟨x0, x1, x2⟩ := ⟨_, _, _, rfl⟩
      rw [hx] at c0 c1 c2 hv HN HO HBAD
      simp only at c0 c1 c2
      have hv : x0 < 256 := hv
      clear hx hkl hll2 hbw hcl
      have HB := hid (fun W => isByte_any x0 x1 x2 W)
      have HM := hid (fun W => isMatch_any x0 x1 x2 W)
      have HW0 := hid (Has.new wr 29 #[.int .u8 x0, .int .i64 x1, .int .i64 x2])
      have HBW0 := hid (bw_alloc3 HBW.out #[.int .u8 x0, .int .i64 x1, .int .i64 x2] 29)
      cases hb : isB ⟨x0, x1, x2⟩ with
      | true =>
        have hok : tokOk ⟨x0, x1, x2⟩ = true := by simp [tokOk, hb]
        have hc : tokC ⟨x0, x1, x2⟩ = litC x0 := by unfold tokC; rw [hb]; rfl
        have hl9 : 0 ≤ litC x0 ∧ litC x0 ≤ 9 := by unfold litC; split <;> omega
        have HO2 := hid (HO.out.trans hok)
        have HN2 := hid (HN.out.trans (by rw [hc]))
        have HC := hid (fun W => byteCost_any x0 W)
        obtain ⟨h90, h91⟩ := hl9
        generalize litC x0 = cc at *
        rw [hb] at HB
        clear hb hok hc HN HO HBAD HM
        go_wp2_with fail
        refine (HB.out _).mono ?_
        rintro e w2 ⟨rfl, hw2⟩
        have d := hw2.has HW0.out
        have d0 : w2.cell? ⟨wr.heap.size, 0, none⟩ = some (.int .u8 x0) := d.cell 0
        have HBW2 := hid (HBW0.out.trans hw2)
        clear d hw2
        go_wp2_with fail
        refine (HC.out _).mono ?_
        rintro e w3 ⟨rfl, hw3⟩
        go_wp2
        go_roundw
        case rel => exact ⟨k + 1, by omega, by go_num, by rw [HN2.out], hid HO2.out, HBW2.out⟩
        case measure => simp [intOf]; omega
      | false =>
        rw [hb] at HB
        cases hm : isM ⟨x0, x1, x2⟩ with
        | true =>
          obtain ⟨b1, b2, b3, b4, -⟩ := isM_iff.1 hm
          simp only at b1 b2 b3 b4
          obtain ⟨n1, rfl⟩ := Int.eq_ofNat_of_zero_le (show 0 ≤ x1 by omega)
          obtain ⟨n2, rfl⟩ := Int.eq_ofNat_of_zero_le (show 0 ≤ x2 by omega)
          have hok : tokOk ⟨x0, n1, n2⟩ = true := by simp [tokOk, hm]
          have hc : tokC ⟨x0, n1, n2⟩ = ((lenC n1 + 5 + distX n2 : Nat) : Int) := by unfold tokC; rw [hb]; rfl
          have g1 : lenC n1 ≤ 13 := by have := lenC_le ⟨n1 - 3, by omega⟩; simp only at this; rwa [show n1 - 3 + 3 = n1 by omega] at this
          have g2 := distX_le n2 (by omega) (by omega)
          have HC1 := hid (fun W => lenCost_any n1 (by omega) (by omega) W)
          have HC2 := hid (fun W => extra_any n2 (by omega) (by omega) W)
          have HO2 := hid (HO.out.trans hok)
          have HN2 := hid (HN.out.trans (by rw [hc]))
          generalize lenC n1 = q1 at *
          generalize distX n2 = q2 at *
          rw [hm] at HM
          clear hb hm hok hc HN HO HBAD
          go_wp2_with fail
          refine (HB.out _).mono ?_
          rintro e w2 ⟨rfl, hw2⟩
          have HD := hid (hw2.has HW0.out)
          have d0 : w2.cell? ⟨wr.heap.size, 0, none⟩ = some (.int .u8 x0) := HD.out.cell 0
          have d1 : w2.cell? ⟨wr.heap.size, 1, none⟩ = some (.int .i64 n1) := HD.out.cell 1
          have d2 : w2.cell? ⟨wr.heap.size, 2, none⟩ = some (.int .i64 n2) := HD.out.cell 2
          have HBW2 := hid (HBW0.out.trans hw2)
          clear hw2
          go_wp2_with fail
          refine (HM.out _).mono ?_
          rintro e w3 ⟨rfl, hw3⟩
          have f1 : w3.cell? ⟨wr.heap.size, 1, none⟩ = some (.int .i64 n1) := (hw3.has HD.out).cell 1
          have f2 : w3.cell? ⟨wr.heap.size, 2, none⟩ = some (.int .i64 n2) := (hw3.has HD.out).cell 2
          have HBW3 := hid (HBW2.out.trans hw3)
          clear hw3 d0 d1 d2
          have s1 : IntKind.i64.wrap ((q1 : Int) + 5) = q1 + 5 := IntWalk.i64_in _ (by omega)
          have s2 : IntKind.i64.wrap ((q1 : Int) + 5 + q2) = q1 + 5 + q2 := IntWalk.i64_in _ (by omega)
          have s3 : IntKind.i64.wrap (c + ((q1 : Int) + 5 + q2)) = c + (q1 + 5 + q2) := IntWalk.i64_in _ (by omega)
          go_wp2_with fail
          go_quiet ((first | (go_at_call 88; exact Calls.quiet_of_same (HC1.out _)) | (go_at_call 89; exact Calls.quiet_of_same (HC2.out _))))
          clear s1 s2 s3
          go_wp2
          go_roundw
          case rel => exact ⟨k + 1, by omega, by go_num, by rw [HN2.out]; simp, hid HO2.out, HBW3.out.drewN _⟩
          case measure => simp [intOf]; omega
        | false =>
          have HB2 := hid (HBAD.out (by simp [tokOk, hb, hm]))
          have HR := hid (show costV l = 0 ∧ costE l = 1 by unfold costV costE; rw [HB2.out]; exact ⟨rfl, rfl⟩)
          rw [hm] at HM
          clear hb hm HN HO HBAD HB2
          go_wp2_with fail
          refine (HB.out _).mono ?_
          rintro e w2 ⟨rfl, hw2⟩
          have HD := hid (hw2.has HW0.out)
          have d0 : w2.cell? ⟨wr.heap.size, 0, none⟩ = some (.int .u8 x0) := HD.out.cell 0
          have d1 : w2.cell? ⟨wr.heap.size, 1, none⟩ = some (.int .i64 x1) := HD.out.cell 1
          have d2 : w2.cell? ⟨wr.heap.size, 2, none⟩ = some (.int .i64 x2) := HD.out.cell 2
          have HBW2 := hid (HBW0.out.trans hw2)
          clear hw2
          go_wp2_with fail
          refine (HM.out _).mono ?_
          rintro e w3 ⟨rfl, hw3⟩
          have HBW3 := hid (HBW2.out.trans hw3)
          clear hw3 d0 d1 d2
          go_wp2
          go_returns
          exact ⟨by rw [HR.out.1, HR.out.2]; rfl, HBW3.out⟩
    · obtain rfl : k = len := by omega
      have ht : l.take k = l := List.take_of_length_le (by rw [hll.out]; exact Nat.le_refl _)
      have HR := hid (show costV l = costGo (l.take k) ∧ costE l = 0 by unfold costV costE; rw [ht] at HOK ⊢; rw [HOK.out]; exact ⟨rfl, rfl⟩)
      clear ht
      go_wp2
      go_returns
      exact ⟨by rw [HR.out.1, HR.out.2]; rfl, HBW.out⟩
end Go.Proofs.YtkmbgkcpohchhaaGreatDoor
