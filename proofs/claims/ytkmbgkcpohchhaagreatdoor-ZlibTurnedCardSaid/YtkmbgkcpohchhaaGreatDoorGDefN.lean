import Derived.Test.YtkmbgkcpohchhaaGreatDoorGInfP
import Derived.Test.YtkmbgkcpohchhaaGreatDoorGHufG
import Derived.Maps.AppendAt
import Derived.Deep.AppendLies
import Derived.Deep.RegionLaw
import Derived.Lib.AppendZerosOnto
import Derived.Lib.LazyBuf
import Derived.Shelf.GgSortMore.Stable
import Derived.Shelf.SlSortFuncK.ComposeK
import Derived.Shelf.SlSortFuncK.SWK
import Derived.Test.YtkmbgkcpohchhaaGreatDoorRows
import Derived.Test.YtkmbgkcpohchhaaGreatDoorGBase
import Derived.Shelf.GgSortFunc.SmallK
namespace Go.Proofs.YtkmbgkcpohchhaaGreatDoor
open Go.RowKit Go.Conc
set_option linter.unusedVariables false
theorem literal_ok (t : TokR) (ht : tokOk t = true) (hl : t.lit < 256) (w : World) :
    Calls Tryz.prog 56 #[.agg #[.int .u8 t.lit, .int .i64 t.len, .int .i64 t.dist]] w fun e w' => e = .returned (symV (litY t)) ∧ Bw w w' := by
  obtain ⟨lit, ln, d⟩ := t
  cases hb : isB ⟨lit, ln, d⟩ with
  | true =>
    obtain ⟨h1, h2⟩ := isB_iff.1 hb
    simp only at h1 h2
    subst h1 h2
    have : litY ⟨lit, 0, 0⟩ = ⟨lit, 0, 0⟩ := by unfold litY; rw [hb, if_pos rfl]
    rw [this]
    exact literal_lit lit hl 0 w
  | false =>
    have hm : isM ⟨lit, ln, d⟩ = true := by simpa [tokOk, hb] using ht
    obtain ⟨h1, h2, h3, h4, h5⟩ := isM_iff.1 hm
    simp only at h1 h2 h3 h4 h5
    obtain ⟨dn, rfl⟩ := Int.eq_ofNat_of_zero_le (show 0 ≤ d by omega)
    obtain ⟨n, rfl⟩ := Int.eq_ofNat_of_zero_le (show 0 ≤ ln by omega)
    have e1 : litY ⟨lit, (n : Nat), (dn : Nat)⟩ = ⟨mlenS n, lenX (mlenS n), n - mlenF (mlenS n)⟩ := by unfold litY; rw [hb]; simp
    rw [e1]
    by_cases h8 : n = 258
    · subst h8
      exact literal_258 lit dn (by omega) w
    · refine (literal_len lit n dn (by omega) (by omega) (by omega) w).mono ?_
      rintro e' w' ⟨e, hE, _, rfl, hbw⟩
      obtain ⟨k1, k2, k3, _⟩ := len_sym hE (by omega)
      rw [show n - 3 + 3 = n by omega] at k1 k2 k3
      exact ⟨by rw [k1, k3, ← k2]; rfl, hbw⟩
theorem distance_ok (t : TokR) (ht : isM t = true) (w : World) :
    Calls Tryz.prog 57 #[.agg #[.int .u8 t.lit, .int .i64 t.len, .int .i64 t.dist]] w fun e w' => e = .returned (symV (dstY t)) ∧ Bw w w' := by
  obtain ⟨lit, ln, d⟩ := t
  obtain ⟨h1, h2, _⟩ := isM_iff.1 ht
  simp only at h1 h2
  obtain ⟨dn, rfl⟩ := Int.eq_ofNat_of_zero_le (show 0 ≤ d by omega)
  refine (distance_any lit ln dn (by omega) (by omega) w).mono ?_
  rintro e' w' ⟨e, hE, _, rfl, hbw⟩
  obtain ⟨k1, k2, k3, _⟩ := dst_sym hE (by omega)
  rw [show dn - 1 + 1 = dn by omega] at k1 k2 k3
  refine ⟨?_, hbw⟩
  show _ = Ending.returned (.agg #[.int .i64 (dstS dn : Nat), .int .i64 (dstX (dstS dn) : Nat), .int .u32 ((dn - dstF (dstS dn) : Nat))])
  rw [k1, k3, ← k2]
structure CodeAt (w : World) (lb ub : Nat) (l : List Int) : Prop where
  l1 : lb < w.heap.size
  u1 : ub < w.heap.size
  lc : ∀ i, i < l.length → w.cell? ⟨lb, i, none⟩ = some (.int .i64 (lenF l i : Nat))
  uc : ∀ i, i < l.length → w.cell? ⟨ub, i, none⟩ = some (.int .u32 (revB (codeF l i) (lenF l i) : Nat))
def codeV (lb lc ub uc n : Nat) : Value := .agg #[.slice (some ⟨lb, 0, none⟩) n lc, .slice (some ⟨ub, 0, none⟩) n uc]
theorem CodeAt.blocks {w w' : World} {lb ub : Nat} {l : List Int} (h : CodeAt w lb ub l) (hs : w.heap.size ≤ w'.heap.size) (h1 : w'.heap[lb]? = w.heap[lb]?) (h2 : w'.heap[ub]? = w.heap[ub]?) : CodeAt w' lb ub l :=
  ⟨Nat.lt_of_lt_of_le h.l1 hs, Nat.lt_of_lt_of_le h.u1 hs, fun i hi => (World.cell?_of_block h1).trans (h.lc i hi), fun i hi => (World.cell?_of_block h2).trans (h.uc i hi)⟩
theorem CodeAt.bw {w w' : World} {lb ub : Nat} {l : List Int} (h : CodeAt w lb ub l) (hb : Bw w w') : CodeAt w' lb ub l := h.blocks hb.size (hb.block lb h.l1) (hb.block ub h.u1)
def usCells (l : List Int) (k : Nat) : List Value := (List.range k).map fun i => Value.int .u32 (revB (codeF l i) (lenF l i) : Nat)
theorem usCells_succ (l : List Int) (k : Nat) : usCells l (k + 1) = usCells l k ++ [Value.int .u32 (revB (codeF l k) (lenF l k) : Nat)] := by
  unfold usCells
  rw [List.range_succ, List.map_append]
  rfl
theorem usCells_get (l : List Int) (k i : Nat) (h : i < k) : (usCells l k)[i]? = some (Value.int .u32 (revB (codeF l i) (lenF l i) : Nat)) := by
  unfold usCells
  simp [h]
theorem u32Info : (Tryz.prog.info? 38).map (fun i => (i.zero, i.size, i.bytes)) = some (some (.int .u32 0), 1, 4) := by kernel_rfl
theorem code_small {l : List Int} (h : IsCode l) (i : Nat) : codeF l i < 32768 := by
  rcases Nat.eq_zero_or_pos (lenF l i) with h0 | h0
  · rw [code_zero h h0]; decide
  · have h1 := code_lt h h0
    have h2 : (2 : Nat) ^ lenF l i ≤ 2 ^ 15 := Nat.pow_le_pow_right (by decide) (h.len i).1
    rw [show (2 : Nat) ^ 15 = 32768 by rfl] at h2
    omega
set_option maxRecDepth 100000 in
set_option maxHeartbeats 4000000 in
theorem newCode_any (b c len : Nat) (l : List Int) (hll : Hid (l.length = len)) (h0 : 0 < len) (hE : checkE l = 0) (w : World) (hst : ZsAt w (some ⟨b, 0, none⟩) l) :
    Calls Tryz.prog 58 #[.slice (some ⟨b, 0, none⟩) len c] w fun e w' => ∃ ub uc, e = .returned (codeV b c ub uc len) ∧ w.heap.size ≤ ub ∧ CodeAt w' b ub l ∧ Bw w w' := by
  obtain ⟨i0, hinf, hz0, hz1, hz2⟩ := info_parts u32Info
  have hIC := IsCode.of_check hE
  have h320 : len ≤ 320 := by rw [← hll.out]; exact hIC.few
  have HIC := hid hIC
  have HCO := hid (fun (W : World) (h : Bw w W) => codes_ok (some ⟨b, 0, none⟩) len c l hll hE W (hst.bw h))
  have HLE := hid (show ∀ i, i < len → b < w.heap.size ∧ w.cell? ⟨b, i, none⟩ = some (.int .i64 (lenF l i : Nat)) from fun i hi => by
    obtain ⟨b', off, e, hb', hc⟩ := hst i (by rw [hll.out]; exact hi)
    injection e with e
    injection e with e1 e2 e3
    subst e1 e2
    have : l[i]'(by rw [hll.out]; exact hi) = (lenF l i : Nat) := by
      have := (hIC.len i).2
      simpa [List.getD, show i < l.length by rw [hll.out]; exact hi] using this
    rw [this, Nat.zero_add] at hc
    exact ⟨hb', hc⟩)
  have hbw0 := (HLE.out 0 h0).1
  clear hst hIC hE
  go_enter Tryz.func58, Tryz.ntmps58
  go_wp2_with fail
  refine (HCO.out _ ((Bw.refl w).alloc _)).mono ?_
  rintro e w2 ⟨rb, rfl, hrb, hhas, hb2⟩
  obtain ⟨g, hg⟩ : ∃ g, w2.heap.size = g := ⟨_, rfl⟩
  have hsz2 := hb2.size
  rw [World.size_alloc] at hsz2 hrb
  have HA := hid (hb2.has (Has.new w 47 #[.slice none 0 0, .slice none 0 0]))
  have HB2 := hid (show Bw w w2 from ((Bw.refl w).alloc _).trans hb2)
  have HH2 := hid hhas
  have hrl := hhas.lt
  clear hhas hb2
  go_wp2_with fail
  have HG3 := hid (Has.new w2 47 #[.slice (some ⟨b, 0, none⟩) len c, .slice none 0 0])
  have HB3 := hid (HB2.out.alloc (.cells #[.slice (some ⟨b, 0, none⟩) len c, .slice none 0 0] 47))
  have HR3 := hid (HH2.out.alloc (.cells #[.slice (some ⟨b, 0, none⟩) len c, .slice none 0 0] 47))
  have HA3 := hid (HA.out.alloc (.cells #[.slice (some ⟨b, 0, none⟩) len c, .slice none 0 0] 47))
  have HZ3 := hid (show g + 1 ≤ (w2.alloc (.cells #[.slice (some ⟨b, 0, none⟩) len c, .slice none 0 0] 47)).heap.size by rw [World.size_alloc, hg]; exact Nat.le_refl _)
  rw [hg] at HG3
  generalize w2.alloc (.cells #[.slice (some ⟨b, 0, none⟩) len c, .slice none 0 0] 47) = W3 at *
  have hwg : w.heap.size < g := by omega
  have hrg : rb < g := by omega
  clear HB2 HH2 HA hg hsz2 hrl
  go_loopw [17] (fun i wr => ∃ (k : Nat) (v : Value), k ≤ len ∧ i = .int .i64 k ∧ Has wr g 47 #[.slice (some ⟨b, 0, none⟩) len c, v] ∧ wr.ownsRow (g + 1) 38 1 v k (usCells l k) ∧ Has wr rb 3 (cArr l len len) ∧ Has wr w.heap.size 47 #[.slice none 0 0, .slice none 0 0] ∧ g + 1 ≤ wr.heap.size ∧ Bw w wr) (fun i _ => len - (intOf i).toNat)
  case atStart => exact ⟨0, _, Nat.zero_le _, rfl, HG3.out, World.ownsRow_nil _ _ _ _, HR3.out, HA3.out, HZ3.out, HB3.out⟩
  case round =>
    clear HG3 HR3 HA3 HZ3 HB3
    obtain ⟨k, v, hk, rfl, hg1, hown, hr, ha, hz, hbw⟩ := hrel
    obtain ⟨vo, vc, rfl⟩ := own_slice hown
    have HG := hid hg1
    have HO := hid hown
    have HR := hid hr
    have HA := hid ha
    have HB := hid hbw
    have hbs := hbw.size
    by_cases hlt : k < len
    · have hlti : (k : Int) < len := by omega
      have q1 : wr.cell? ⟨b, k, none⟩ = some (.int .i64 (lenF l k : Nat)) := (World.cell?_of_block (hbw.block b hbw0)).trans (HLE.out k hlt).2
      have q2 : wr.cell? ⟨rb, k, none⟩ = some (.int .i64 (codeF l k : Nat)) := by
        rw [hr.cell k, cArr_get l len len k hlt, if_pos hlt]
      have q3 := hg1.cell 0
      have q4 := hg1.cell 1
      have HRV := hid (fun W => reversed_any (codeF l k) (lenF l k) (code_small HIC.out k) (HIC.out.len k).1 W)
      have HU := hid (usCells_succ l k)
      generalize codeF l k = cd at *
      generalize lenF l k = ln at *
      clear hg1 hown hr ha hbw
      have HWA := hid (show Bw wr (wr.alloc (.cells #[.int .u32 (revB cd ln : Nat)] 38)).drew from ((Bw.refl wr).alloc _).drewN 1)
      have HGA := hid (HWA.out.has HG.out)
      have HRA := hid (HWA.out.has HR.out)
      have HAA := hid (HWA.out.has HA.out)
      have HOA := hid (HWA.out.own HO.out)
      have HBA := hid (HB.out.trans HWA.out)
      have n1 := own_ne_has HO.out HG.out (by decide)
      have n2 := own_ne_has HO.out HR.out (by decide)
      have n3 := own_ne_has HO.out HA.out (by decide)
      generalize hrv : revB cd ln = rv at *
      have HK4 := hid (show k ≤ 320 by omega)
      have q2d : wr.drew.cell? ⟨rb, k, none⟩ = some (.int .i64 cd) := q2
      have q4d : wr.drew.cell? ⟨g, 1, none⟩ = some (.slice vo k vc) := q4
      have q4e := HWA.out.cell q4
      go_wp2_with fail
      go_region_law
        (first
          | (refine step_append_lies _ (by rfl) (.tmp 23) (.tmp 30) 45 (by rfl) (g + 1) 38 i0 (.int .u32 0) 1 4 Tryz.underlying45 hinf hz0 hz1 hz2 (by rfl) (by decide) (.slice vo k vc) k (usCells l k) (by rfl) HOA.out ⟨wr.heap.size, 0, none⟩ 1 1 [.int .u32 (rv : Nat)] (by rfl) rfl (cell_one_new _ _ _) (by intro u hu; simp at hu; rw [hu]; rfl) (by omega) (by unfold maxLen; omega) (by omega) (by simp only [World.size_alloc, World.drew]; omega) (wr.heap.size + 1) (by simp) ?_; intro g5 cp5 w5 hown5 hgrow5 hat5 hlt5; have HO5 := hid hown5; have HG5 := hid hgrow5; have hg5 := has_grown HGA.out hgrow5 n1; have z5 := hg5.frozen 1; have y5 := hg5.cell 1; have HH5 := hid hg5; clear hown5 hgrow5 hat5 hlt5 hg5)
          | (go_simp; go_at_call 92; refine (HRV.out _).mono ?_; rintro e w2 ⟨rfl, rfl⟩))
      all_goals
        go_wp2
        go_roundw
        case rel =>
          have hgl := HG5.out.size
          have hO := own_keep HO5.out fun b hb => Below.heap_setCell w5 ⟨g, 1, none⟩ (.slice (some ⟨g5, 0, none⟩) (k + 1) cp5) b (fun e => by have h1 := own_ge HO5.out hb; have h2 : g = b := e.symm; omega)
          have hR := (has_grown HRA.out HG5.out n2).far (p := ⟨g, 1, none⟩) (show rb ≠ g by omega) (.slice (some ⟨g5, 0, none⟩) (k + 1) cp5)
          have hA := (has_grown HAA.out HG5.out n3).far (p := ⟨g, 1, none⟩) (show w.heap.size ≠ g by omega) (.slice (some ⟨g5, 0, none⟩) (k + 1) cp5)
          have hB := Below.setCell (Below.trans HBA.out (own_grownJ (own_base HOA.out (show w.heap.size ≤ g + 1 by omega)) HG5.out (by have := HBA.out.size; omega))) (p := ⟨g, 1, none⟩) (show w.heap.size ≤ g by omega) (.slice (some ⟨g5, 0, none⟩) (k + 1) cp5)
          refine ⟨k + 1, .slice (some ⟨g5, 0, none⟩) (k + 1) cp5, by omega, by go_num, HH5.out.put 1 _, by rw [HU.out]; exact hO, hR, hA, ?_, hB⟩
          rw [World.size_setCell]
          simp only [World.size_alloc, World.drew] at hgl
          exact Nat.le_trans (Nat.le_succ_of_le hz) hgl
        case measure => simp [intOf]; omega
    · obtain rfl : k = len := by omega
      obtain ⟨ub, uc, e⟩ := own_some hown h0
      injection e with e1 e2 e3
      subst e1 e3
      have q3 := hg1.cell 0
      have q4 := hg1.cell 1
      have a0 := ha.cell 0
      have a1 := ha.cell 1
      have z0 := ha.frozen 0
      have z1 := ha.frozen 1
      have HP := hid ((ha.put 0 (.slice (some ⟨b, 0, none⟩) k c)).put 1 (.slice (some ⟨ub, 0, none⟩) k vc))
      have hub := own_ge hown (b := ub) rfl
      have hul := own_lt hown (b := ub) rfl
      have HBE := hid (show Bw w _ from Below.setCell (Below.setCell hbw (p := ⟨w.heap.size, 0, none⟩) (Nat.le_refl _) (.slice (some ⟨b, 0, none⟩) k c)) (p := ⟨w.heap.size, 1, none⟩) (Nat.le_refl _) (.slice (some ⟨ub, 0, none⟩) k vc))
      have HUC := hid (show ∀ i, i < k → wr.cell? ⟨ub, i, none⟩ = some (.int .u32 (revB (codeF l i) (lenF l i) : Nat)) from fun i hi => by
        have := hown.cells (g := ub) rfl i _ (usCells_get l k i hi)
        rwa [addr_add] at this)
      have HUK := hid (show ((wr.setCell ⟨w.heap.size, 0, none⟩ (.slice (some ⟨b, 0, none⟩) k c)).setCell ⟨w.heap.size, 1, none⟩ (.slice (some ⟨ub, 0, none⟩) k vc)).heap[ub]? = wr.heap[ub]? from
        (Below.heap_setCell _ ⟨w.heap.size, 1, none⟩ _ ub (fun e => by have h2 : w.heap.size = ub := e.symm; omega)).trans (Below.heap_setCell _ ⟨w.heap.size, 0, none⟩ _ ub (fun e => by have h2 : w.heap.size = ub := e.symm; omega)))
      have HSZ := hid (show ((wr.setCell ⟨w.heap.size, 0, none⟩ (.slice (some ⟨b, 0, none⟩) k c)).setCell ⟨w.heap.size, 1, none⟩ (.slice (some ⟨ub, 0, none⟩) k vc)).heap.size = wr.heap.size by rw [World.size_setCell, World.size_setCell])
      clear hg1 hown hr ha hbw
      go_wp2
      generalize (wr.setCell ⟨w.heap.size, 0, none⟩ (.slice (some ⟨b, 0, none⟩) k c)).setCell ⟨w.heap.size, 1, none⟩ (.slice (some ⟨ub, 0, none⟩) k vc) = w9 at *
      have e0 : w9.cell? ⟨w.heap.size, 0, none⟩ = some (.slice (some ⟨b, 0, none⟩) k c) := HP.out.cell 0
      have e1 : w9.cell? ⟨w.heap.size, 1, none⟩ = some (.slice (some ⟨ub, 0, none⟩) k vc) := HP.out.cell 1
      (try simp only [Exit.inBlock, Exit.then])
      refine bodyPost_ret (by simp [results, Tryz.results58, go_sem, e0, e1]; try rfl) rfl ?_
      refine ⟨ub, ⟨vc, rfl⟩, by omega, ⟨Nat.lt_of_lt_of_le hbw0 HBE.out.size, by rw [HSZ.out]; exact hul, fun i hi => ?_, fun i hi => ?_⟩, HBE.out⟩
      · rw [hll.out] at hi
        exact (World.cell?_of_block (HBE.out.block b hbw0)).trans (HLE.out i hi).2
      · rw [hll.out] at hi
        exact (World.cell?_of_block HUK.out).trans (HUC.out i hi)
end Go.Proofs.YtkmbgkcpohchhaaGreatDoor
namespace Go.Proofs.YtkmbgkcpohchhaaGreatDoor
open Go.RowKit Go.Conc
set_option linter.unusedVariables false
def fillArr (f : Nat → Nat) (N k : Nat) : Array Value := ((List.range N).map fun i => Value.int .i64 (if i < k then (f i : Int) else 0)).toArray
theorem fillArr_get (f : Nat → Nat) (N k i : Nat) (h : i < N) : (fillArr f N k)[i]? = some (.int .i64 (if i < k then (f i : Int) else 0)) := by simp [fillArr, h]
theorem fillArr_put (f : Nat → Nat) (N k : Nat) (h : k < N) : (fillArr f N k).setIfInBounds k (.int .i64 (f k)) = fillArr f N (k + 1) := by
  apply Array.ext_getElem?
  intro i
  have hsz : (fillArr f N k).size = N := by simp [fillArr]
  rw [Array.getElem?_setIfInBounds, hsz]
  by_cases hi : i < N
  · rw [fillArr_get f N (k + 1) i hi]
    by_cases e : k = i
    · subst e
      rw [if_pos rfl, if_pos h, if_pos (by omega)]
    · rw [if_neg e, fillArr_get f N k i hi]
      by_cases hik : i < k
      · rw [if_pos hik, if_pos (by omega)]
      · rw [if_neg hik, if_neg (by omega)]
  · have e : k ≠ i := by omega
    rw [if_neg e, Array.getElem?_eq_none (by rw [hsz]; omega), Array.getElem?_eq_none (by simp [fillArr]; omega)]
theorem madeCells_fill (f : Nat → Nat) (N : Nat) : madeCells (Value.int .i64 0).cells (N * 1) = fillArr f N 0 := by
  apply Array.ext
  · simp [madeCells, fillArr]
  · intro i h1 h2
    simp [madeCells, fillArr, Value.cells, Nat.mod_one]
theorem make_fill (f : Nat → Nat) (N : Nat) (hN : N ≤ 100000) (w : World) : (Instr.makeSlice 44 (.int .i64 N) (.int .i64 N)).run Tryz.prog w = .ok (.slice (some ⟨w.heap.size, 0, none⟩) N N) (w.alloc (.cells (fillArr f N 0) 3)) := by
  obtain ⟨i0, hinf, hz0, hz1, hz2⟩ := info_parts intInfo
  have := run_makeSlice (P := Tryz.prog) (w := w) 44 3 i0 (.int .i64 0) Tryz.underlying44 hinf hz0 .i64 .i64 N N (by omega) (by omega) (by rw [hz1]; simp; omega) (by rw [hz2]; omega) (by omega)
  rw [this, hz1]
  simp only [Int.toNat_natCast]
  rw [madeCells_fill f N]

def fixLL : List Int := (List.range 288).map fun i => ((fxL i : Nat) : Int)
def fixDD : List Int := (List.range 32).map fun _ => (5 : Int)
theorem fixLL_len : fixLL.length = 288 := by decide +kernel
theorem fixDD_len : fixDD.length = 32 := by decide +kernel
set_option maxRecDepth 100000 in
theorem fixLL_check : checkE fixLL = 0 := by decide +kernel
set_option maxRecDepth 100000 in
theorem fixDD_check : checkE fixDD = 0 := by decide +kernel
theorem fill_zs {w : World} {b n : Nat} {t : TypeId} {f : Nat → Nat} {l : List Int} (h : Has w b t (fillArr f n n)) (hl : l = (List.range n).map fun i => ((f i : Nat) : Int)) : ZsAt w (some ⟨b, 0, none⟩) l := fun i hi => by
  subst hl
  have hn : i < n := by simpa using hi
  refine ⟨b, 0, rfl, h.lt, ?_⟩
  rw [Nat.zero_add, h.cell i, fillArr_get f n n i hn, if_pos hn]
  simp
theorem Has.eq {w : World} {g : Nat} {t : TypeId} {cs cs' : Array Value} (h : Has w g t cs) (e : cs = cs') : Has w g t cs' := e ▸ h
def codes4 (lb lc ub uc len lb2 lc2 ub2 uc2 len2 : Nat) : Value := .agg #[.slice (some ⟨lb, 0, none⟩) len lc, .slice (some ⟨ub, 0, none⟩) len uc, .slice (some ⟨lb2, 0, none⟩) len2 lc2, .slice (some ⟨ub2, 0, none⟩) len2 uc2]
structure Codes2 (w w' : World) (lb ub lb2 ub2 : Nat) (L D : List Int) : Prop where
  l : CodeAt w' lb ub L
  d : CodeAt w' lb2 ub2 D
  new : w.heap.size ≤ lb ∧ w.heap.size ≤ ub ∧ w.heap.size ≤ lb2 ∧ w.heap.size ≤ ub2
set_option maxRecDepth 100000 in
set_option maxHeartbeats 4000000 in
theorem fixedCodes_any (w : World) :
    Calls Tryz.prog 53 #[] w fun e w' => ∃ lb ub uc lb2 ub2 uc2, e = .returned (codes4 lb 288 ub uc 288 lb2 32 ub2 uc2 32) ∧ Codes2 w w' lb ub lb2 ub2 fixLL fixDD ∧ Bw w w' := by
  have hm1 : ∀ W : World, (Instr.makeSlice 44 (.int .i64 288) (.int .i64 288)).run Tryz.prog W = .ok (.slice (some ⟨W.heap.size, 0, none⟩) 288 288) (W.alloc (.cells (fillArr fxL 288 0) 3)) := fun W => make_fill fxL 288 (by decide) W
  have hm2 : ∀ W : World, (Instr.makeSlice 44 (.int .i64 32) (.int .i64 32)).run Tryz.prog W = .ok (.slice (some ⟨W.heap.size, 0, none⟩) 32 32) (W.alloc (.cells (fillArr (fun _ => 5) 32 0) 3)) := fun W => make_fill (fun _ => 5) 32 (by decide) W
  have HFL := hid (fun j (hj : j < 288) W => fixedLength_any j hj W)
  go_enter Tryz.func53, Tryz.ntmps53
  go_wp2_with fail
  have HN := hid ((Has.new w 49 #[.slice none 0 0, .slice none 0 0, .slice none 0 0, .slice none 0 0]).alloc (.cells (fillArr fxL 288 0) 3))
  have HA := hid (Has.new (w.alloc (.cells #[.slice none 0 0, .slice none 0 0, .slice none 0 0, .slice none 0 0] 49)) 3 (fillArr fxL 288 0))
  have HB := hid (((Bw.refl w).alloc (.cells #[.slice none 0 0, .slice none 0 0, .slice none 0 0, .slice none 0 0] 49)).alloc (.cells (fillArr fxL 288 0) 3))
  have HZ := hid (show ((w.alloc (.cells #[.slice none 0 0, .slice none 0 0, .slice none 0 0, .slice none 0 0] 49)).alloc (.cells (fillArr fxL 288 0) 3)).heap.size = w.heap.size + 2 by simp)
  rw [show (w.alloc (.cells #[.slice none 0 0, .slice none 0 0, .slice none 0 0, .slice none 0 0] 49)).heap.size = w.heap.size + 1 by simp] at HA
  generalize (w.alloc (.cells #[.slice none 0 0, .slice none 0 0, .slice none 0 0, .slice none 0 0] 49)).alloc (.cells (fillArr fxL 288 0) 3) = W2 at *
  obtain ⟨nb, hnb⟩ : ∃ nb, w.heap.size = nb := ⟨_, rfl⟩
  rw [hnb] at HN HA HZ ⊢
  have HNB := hid hnb
  clear hnb hm1
  go_loopw [2, 8] (fun _ i wr => ∃ j : Nat, j ≤ 288 ∧ i = .int .i64 j ∧ Bw w wr ∧ Has wr nb 49 #[.slice none 0 0, .slice none 0 0, .slice none 0 0, .slice none 0 0] ∧ Has wr (nb + 1) 3 (fillArr fxL 288 j) ∧ Hid (wr.heap.size = nb + 2)) (fun _ i _ => 288 - (intOf i).toNat)
  case atStart => exact ⟨0, by omega, rfl, HB.out, HN.out, HA.out, HZ⟩
  case round =>
    rename World => wr
    obtain ⟨j, hj, rfl, hb, hn, ha, HZr⟩ := hrel
    have HB := hid hb
    have HN3 := hid hn
    have HA3 := hid ha
    clear hb hn ha
    by_cases hlt : j < 288
    · have hj1 : (j : Int) < 288 := by omega
      go_wp2_with fail
      refine (HFL.out j hlt _).mono ?_
      rintro e w2 ⟨rfl, rfl⟩
      have HA4 := hid (HA3.out.put j (.int .i64 (fxL j)))
      rw [fillArr_put fxL 288 j hlt] at HA4
      have f0 : wr.frozen? ⟨nb + 1, j, none⟩ = false := HA3.out.frozen j
      have g0 : wr.cell? ⟨nb + 1, j, none⟩ = some (.int .i64 0) := by rw [HA3.out.cell j, fillArr_get _ _ _ _ hlt, if_neg (by omega)]
      have HNB2 := hid (show ∀ u, Bw w (wr.setCell ⟨nb + 1, j, none⟩ u) from fun u => Below.setCell HB.out (show w.heap.size ≤ nb + 1 by have := HNB.out; omega) u)
      have HN4 := hid (HN3.out.far (p := ⟨nb + 1, j, none⟩) (show nb ≠ nb + 1 by omega) (.int .i64 (fxL j)))
      have HZ4 := hid (show (wr.setCell ⟨nb + 1, j, none⟩ (.int .i64 (fxL j))).heap.size = nb + 2 by rw [← HZr.out]; simp [World.setCell])
      clear hlt
      go_wp2
      exact ⟨⟨j + 1, by omega, by go_num, HNB2.out _, HN4.out, HA4.out, HZ4⟩, by simp [intOf]; omega⟩
    · have HJ := hid (show j = 288 by omega)
      have hj2 : ¬ (j : Int) < 288 := by omega
      have HB5 := hid (HB.out.alloc (.cells (fillArr (fun _ => 5) 32 0) 3))
      have HN5 := hid (HN3.out.alloc (.cells (fillArr (fun _ => 5) 32 0) 3))
      have HA5 := hid (HA3.out.alloc (.cells (fillArr (fun _ => 5) 32 0) 3))
      have HD5 := hid (Has.new wr 3 (fillArr (fun _ => 5) 32 0))
      have hzr : wr.heap.size = nb + 2 := HZr.out
      rw [hzr] at HD5
      go_wp2_with fail
      generalize wr.alloc (.cells (fillArr (fun _ => 5) 32 0) 3) = W5 at *
      clear hzr hj2
      go_loopw [4, 20] (fun _ i wi => ∃ m : Nat, m ≤ 32 ∧ i = .int .i64 m ∧ Bw w wi ∧ Has wi nb 49 #[.slice none 0 0, .slice none 0 0, .slice none 0 0, .slice none 0 0] ∧ Has wi (nb + 1) 3 (fillArr fxL 288 j) ∧ Has wi (nb + 2) 3 (fillArr (fun _ => 5) 32 m)) (fun _ i _ => 32 - (intOf i).toNat)
      case atStart => exact ⟨0, by omega, rfl, HB5.out, HN5.out, HA5.out, HD5.out⟩
      case round =>
        rename World => wi
        obtain ⟨m, hm, rfl, hb, hn, ha, hd⟩ := hrel
        have HB6 := hid hb
        have HN6 := hid hn
        have HA6 := hid ha
        have HD6 := hid hd
        clear hb hn ha hd
        by_cases hlt : m < 32
        · have hm1 : (m : Int) < 32 := by omega
          have HD7 := hid (HD6.out.put m (.int .i64 (5 : Nat)))
          rw [fillArr_put (fun _ => 5) 32 m hlt] at HD7
          have f0 : wi.frozen? ⟨nb + 2, m, none⟩ = false := HD6.out.frozen m
          have g0 : wi.cell? ⟨nb + 2, m, none⟩ = some (.int .i64 0) := by rw [HD6.out.cell m, fillArr_get _ _ _ _ hlt, if_neg (by omega)]
          have HB7 := hid (show Bw w (wi.setCell ⟨nb + 2, m, none⟩ (.int .i64 5)) from Below.setCell HB6.out (show w.heap.size ≤ nb + 2 by have := HNB.out; omega) _)
          have HN7 := hid (HN6.out.far (p := ⟨nb + 2, m, none⟩) (show nb ≠ nb + 2 by omega) (.int .i64 5))
          have HA7 := hid (HA6.out.far (p := ⟨nb + 2, m, none⟩) (show nb + 1 ≠ nb + 2 by omega) (.int .i64 5))
          clear hlt
          go_wp2
          exact ⟨⟨m + 1, by omega, by go_num, HB7.out, HN7.out, HA7.out, HD7.out⟩, by simp [intOf]; omega⟩
        · have HM := hid (show m = 32 by omega)
          have hm2 : ¬ (m : Int) < 32 := by omega
          have HZA := hid (fill_zs (l := fixLL) (HA6.out.eq (by rw [HJ.out])) rfl)
          have HZD := hid (fill_zs (l := fixDD) (HD6.out.eq (by rw [HM.out])) rfl)
          have HC1 := hid (newCode_any (nb + 1) 288 288 fixLL (hid fixLL_len) (by decide) fixLL_check wi HZA.out)
          have HC2 := hid (fun W (hb : Bw wi W) => newCode_any (nb + 2) 32 32 fixDD (hid fixDD_len) (by decide) fixDD_check W (HZD.out.bw hb))
          have hwi := HB6.out.size
          have hnl := HN6.out.lt
          have hnd := HD6.out.lt
          go_wp2_with fail
          refine HC1.out.mono ?_
          rintro e w7 ⟨ub, uc, rfl, hu, hc1, hb7⟩
          unfold codeV
          have HX1 := hid hc1
          have HB7 := hid hb7
          have hs7 := hb7.size
          clear hc1 hb7
          go_wp2_with fail
          refine (HC2.out _ HB7.out).mono ?_
          rintro e w8 ⟨ub2, uc2, rfl, hu2, hc2, hb8⟩
          unfold codeV
          have HX8 := hid (HX1.out.bw hb8)
          have HY8 := hid hc2
          have HBI := hid (HB7.out.trans hb8)
          have HB8 := hid (HB6.out.trans HBI.out)
          have HN8 := hid (HBI.out.has HN6.out)
          have n0 := HN8.out.cell 0
          have n1 := HN8.out.cell 1
          have n2 := HN8.out.cell 2
          have n3 := HN8.out.cell 3
          have f0 := HN8.out.frozen 0
          have f1 := HN8.out.frozen 1
          have f2 := HN8.out.frozen 2
          have f3 := HN8.out.frozen 3
          have HP := hid ((((HN8.out.put 0 (.slice (some ⟨nb + 1, 0, none⟩) 288 288)).put 1 (.slice (some ⟨ub, 0, none⟩) 288 uc)).put 2 (.slice (some ⟨nb + 2, 0, none⟩) 32 32)).put 3 (.slice (some ⟨ub2, 0, none⟩) 32 uc2))
          have HBW := hid (show Bw w _ from (Below.setCell (Below.setCell (Below.setCell (Below.setCell HB8.out (p := ⟨nb, 0, none⟩) (show w.heap.size ≤ nb by have := HNB.out; omega) (.slice (some ⟨nb + 1, 0, none⟩) 288 288)) (p := ⟨nb, 1, none⟩) (show w.heap.size ≤ nb by have := HNB.out; omega) (.slice (some ⟨ub, 0, none⟩) 288 uc)) (p := ⟨nb, 2, none⟩) (show w.heap.size ≤ nb by have := HNB.out; omega) (.slice (some ⟨nb + 2, 0, none⟩) 32 32)) (p := ⟨nb, 3, none⟩) (show w.heap.size ≤ nb by have := HNB.out; omega) (.slice (some ⟨ub2, 0, none⟩) 32 uc2)))
          have HKB := hid (show ∀ b, b ≠ nb → ((((w8.setCell ⟨nb, 0, none⟩ (.slice (some ⟨nb + 1, 0, none⟩) 288 288)).setCell ⟨nb, 1, none⟩ (.slice (some ⟨ub, 0, none⟩) 288 uc)).setCell ⟨nb, 2, none⟩ (.slice (some ⟨nb + 2, 0, none⟩) 32 32)).setCell ⟨nb, 3, none⟩ (.slice (some ⟨ub2, 0, none⟩) 32 uc2)).heap[b]? = w8.heap[b]? from fun b hb => ((Below.heap_setCell _ ⟨nb, 3, none⟩ _ b hb).trans ((Below.heap_setCell _ ⟨nb, 2, none⟩ _ b hb).trans ((Below.heap_setCell _ ⟨nb, 1, none⟩ _ b hb).trans ((Below.heap_setCell _ ⟨nb, 0, none⟩ _ b hb).trans rfl)))))
          have HSZ := hid (show ((((w8.setCell ⟨nb, 0, none⟩ (.slice (some ⟨nb + 1, 0, none⟩) 288 288)).setCell ⟨nb, 1, none⟩ (.slice (some ⟨ub, 0, none⟩) 288 uc)).setCell ⟨nb, 2, none⟩ (.slice (some ⟨nb + 2, 0, none⟩) 32 32)).setCell ⟨nb, 3, none⟩ (.slice (some ⟨ub2, 0, none⟩) 32 uc2)).heap.size = w8.heap.size by simp only [World.size_setCell])
          clear hc2 hb8
          go_wp2
          generalize (((w8.setCell ⟨nb, 0, none⟩ (.slice (some ⟨nb + 1, 0, none⟩) 288 288)).setCell ⟨nb, 1, none⟩ (.slice (some ⟨ub, 0, none⟩) 288 uc)).setCell ⟨nb, 2, none⟩ (.slice (some ⟨nb + 2, 0, none⟩) 32 32)).setCell ⟨nb, 3, none⟩ (.slice (some ⟨ub2, 0, none⟩) 32 uc2) = w9 at *
          clear n0 n1 n2 n3 f0 f1 f2 f3
          have e0 : w9.cell? ⟨nb, 0, none⟩ = some (.slice (some ⟨nb + 1, 0, none⟩) 288 288) := HP.out.cell 0
          have e1 : w9.cell? ⟨nb, 1, none⟩ = some (.slice (some ⟨ub, 0, none⟩) 288 uc) := HP.out.cell 1
          have e2 : w9.cell? ⟨nb, 2, none⟩ = some (.slice (some ⟨nb + 2, 0, none⟩) 32 32) := HP.out.cell 2
          have e3 : w9.cell? ⟨nb, 3, none⟩ = some (.slice (some ⟨ub2, 0, none⟩) 32 uc2) := HP.out.cell 3
          (try simp only [Exit.inBlock, Exit.then])
          refine bodyPost_ret (v := codes4 (nb + 1) 288 ub uc 288 (nb + 2) 32 ub2 uc2 32) (by simp [results, Tryz.results53, go_sem, codes4, e0, e1, e2, e3]; try rfl) rfl ?_
          have hn := HNB.out
          refine ⟨nb + 1, ub, uc, nb + 2, ub2, uc2, rfl, ⟨HX8.out.blocks (Nat.le_of_eq HSZ.out.symm) (HKB.out _ (by omega)) (HKB.out _ (by omega)), HY8.out.blocks (Nat.le_of_eq HSZ.out.symm) (HKB.out _ (by omega)) (HKB.out _ (by omega)), by omega, by omega, by omega, by omega⟩, HBW.out⟩
end Go.Proofs.YtkmbgkcpohchhaaGreatDoor
namespace Go.Proofs.YtkmbgkcpohchhaaGreatDoor
open Go.Shelf
def laysGg26_ren : Go.Shelf.Ren := ⟨fun | 26 => 161 | n => n, fun | 44 => 220 | 3 => 3 | 0 => 0 | 4 => 4 | 26 => 207 | 37 => 216 | n => n, fun | n => n⟩
theorem laysGg26 : Go.Proofs.LaysGg.n26 Tryz.prog laysGg26_ren := {
  mixed := by kernel_rfl
  f26 := Tryz.func161.trans (congrArg some (by kernel_rfl))
  t0 := Tryz.underlying0
  a0 := Tryz.isAgg0
  z0 := Tryz.sizeOf0
  v0 := Tryz.zeroValue0
  i0 := by kernel_rfl
  t3 := Tryz.underlying3
  a3 := Tryz.isAgg3
  z3 := Tryz.sizeOf3
  v3 := Tryz.zeroValue3
  i3 := by kernel_rfl
  t4 := Tryz.underlying4
  a4 := Tryz.isAgg4
  z4 := Tryz.sizeOf4
  v4 := Tryz.zeroValue4
  i4 := by kernel_rfl
  t26 := Tryz.underlying207
  a26 := Tryz.isAgg207
  z26 := Tryz.sizeOf207
  v26 := Tryz.zeroValue207
  i26 := by kernel_rfl
  t37 := Tryz.underlying216
  a37 := Tryz.isAgg216
  z37 := Tryz.sizeOf216
  v37 := Tryz.zeroValue216
  i37 := by kernel_rfl
  t44 := Tryz.underlying220
  a44 := Tryz.isAgg220
  z44 := Tryz.sizeOf220
  v44 := Tryz.zeroValue220
  i44 := by kernel_rfl }
def laysGt8_ren : Go.Shelf.Ren := ⟨fun | 8 => 145 | 13 => 148 | 14 => 149 | 16 => 151 | 15 => 150 | 29 => 161 | 30 => 162 | 42 => 163 | 49 => 164 | n => n, fun | 20 => 20 | 26 => 207 | 36 => 214 | 0 => 0 | 38 => 216 | 42 => 220 | 3 => 3 | 4 => 4 | 47 => 134 | 17 => 17 | 33 => 211 | 34 => 212 | 89 => 238 | 12 => 12 | 56 => 38 | 82 => 231 | 5 => 5 | 83 => 232 | 84 => 233 | 85 => 234 | 86 => 235 | 87 => 236 | n => n, fun | n => n⟩
theorem laysGt8 : Go.Proofs.LaysGt.n8 Tryz.prog laysGt8_ren := {
  mixed := by kernel_rfl
  f8 := Tryz.func145.trans (congrArg some (by kernel_rfl))
  f13 := Tryz.func148.trans (congrArg some (by kernel_rfl))
  f14 := Tryz.func149.trans (congrArg some (by kernel_rfl))
  f15 := Tryz.func150.trans (congrArg some (by kernel_rfl))
  f16 := Tryz.func151.trans (congrArg some (by kernel_rfl))
  f29 := Tryz.func161.trans (congrArg some (by kernel_rfl))
  f30 := Tryz.func162.trans (congrArg some (by kernel_rfl))
  f42 := Tryz.func163.trans (congrArg some (by kernel_rfl))
  f49 := Tryz.func164.trans (congrArg some (by kernel_rfl))
  t0 := Tryz.underlying0
  a0 := Tryz.isAgg0
  z0 := Tryz.sizeOf0
  v0 := Tryz.zeroValue0
  i0 := by kernel_rfl
  t3 := Tryz.underlying3
  a3 := Tryz.isAgg3
  z3 := Tryz.sizeOf3
  v3 := Tryz.zeroValue3
  i3 := by kernel_rfl
  t4 := Tryz.underlying4
  a4 := Tryz.isAgg4
  z4 := Tryz.sizeOf4
  v4 := Tryz.zeroValue4
  i4 := by kernel_rfl
  t5 := Tryz.underlying5
  a5 := Tryz.isAgg5
  z5 := Tryz.sizeOf5
  v5 := Tryz.zeroValue5
  i5 := by kernel_rfl
  t12 := Tryz.underlying12
  a12 := Tryz.isAgg12
  z12 := Tryz.sizeOf12
  v12 := Tryz.zeroValue12
  i12 := by kernel_rfl
  t17 := Tryz.underlying17
  a17 := Tryz.isAgg17
  z17 := Tryz.sizeOf17
  v17 := Tryz.zeroValue17
  i17 := by kernel_rfl
  t20 := Tryz.underlying20
  a20 := Tryz.isAgg20
  z20 := Tryz.sizeOf20
  v20 := Tryz.zeroValue20
  i20 := by kernel_rfl
  t26 := Tryz.underlying207
  a26 := Tryz.isAgg207
  z26 := Tryz.sizeOf207
  v26 := Tryz.zeroValue207
  i26 := by kernel_rfl
  t33 := Tryz.underlying211
  a33 := Tryz.isAgg211
  z33 := Tryz.sizeOf211
  v33 := Tryz.zeroValue211
  i33 := by kernel_rfl
  t34 := Tryz.underlying212
  a34 := Tryz.isAgg212
  z34 := Tryz.sizeOf212
  v34 := Tryz.zeroValue212
  i34 := by kernel_rfl
  t36 := Tryz.underlying214
  a36 := Tryz.isAgg214
  z36 := Tryz.sizeOf214
  v36 := Tryz.zeroValue214
  i36 := by kernel_rfl
  t38 := Tryz.underlying216
  a38 := Tryz.isAgg216
  z38 := Tryz.sizeOf216
  v38 := Tryz.zeroValue216
  i38 := by kernel_rfl
  t42 := Tryz.underlying220
  a42 := Tryz.isAgg220
  z42 := Tryz.sizeOf220
  v42 := Tryz.zeroValue220
  i42 := by kernel_rfl
  t47 := Tryz.underlying134
  a47 := Tryz.isAgg134
  z47 := Tryz.sizeOf134
  v47 := Tryz.zeroValue134
  i47 := by kernel_rfl
  t56 := Tryz.underlying38
  a56 := Tryz.isAgg38
  z56 := Tryz.sizeOf38
  v56 := Tryz.zeroValue38
  i56 := by kernel_rfl
  t82 := Tryz.underlying231
  a82 := Tryz.isAgg231
  z82 := Tryz.sizeOf231
  v82 := Tryz.zeroValue231
  i82 := by kernel_rfl
  t83 := Tryz.underlying232
  a83 := Tryz.isAgg232
  z83 := Tryz.sizeOf232
  v83 := Tryz.zeroValue232
  i83 := by kernel_rfl
  t84 := Tryz.underlying233
  a84 := Tryz.isAgg233
  z84 := Tryz.sizeOf233
  v84 := Tryz.zeroValue233
  i84 := by kernel_rfl
  t85 := Tryz.underlying234
  a85 := Tryz.isAgg234
  z85 := Tryz.sizeOf234
  v85 := Tryz.zeroValue234
  i85 := by kernel_rfl
  t86 := Tryz.underlying235
  a86 := Tryz.isAgg235
  z86 := Tryz.sizeOf235
  v86 := Tryz.zeroValue235
  i86 := by kernel_rfl
  t87 := Tryz.underlying236
  a87 := Tryz.isAgg236
  z87 := Tryz.sizeOf236
  v87 := Tryz.zeroValue236
  i87 := by kernel_rfl
  t89 := Tryz.underlying238
  a89 := Tryz.isAgg238
  z89 := Tryz.sizeOf238
  v89 := Tryz.zeroValue238
  i89 := by kernel_rfl }
end Go.Proofs.YtkmbgkcpohchhaaGreatDoor
namespace Go.Proofs.YtkmbgkcpohchhaaGreatDoor
open Go.RowKit Go.Shelf Go.Lib Go.Sort
set_option linter.unusedVariables false
variable {α : Type} [Inhabited α]
theorem grow_block {w : World} {g n : Nat} {os : Array Obj} {F cur : Array Value} {t : TypeId} {fr : Nat × Nat} (hg : w.heap[g]? = some (.cells cur t fr)) : (grow (putRow id (Sort.ahead w n) g 0 F) os).heap[g]? = some (.cells (putCells id 0 F cur) t fr) := by
  have hl : g < w.heap.size := (Array.getElem?_eq_some_iff.1 hg).1
  have h2 : (putRow id (Sort.ahead w n) g 0 F).heap[g]? = some (.cells (putCells id 0 F cur) t fr) := by
    show (w.heap.modify g _)[g]? = _
    rw [Array.getElem?_modify, if_pos rfl, hg]
    rfl
  show ((putRow id (Sort.ahead w n) g 0 F).heap ++ os)[g]? = _
  rw [Array.getElem?_append_left (by
    show g < (w.heap.modify g _).size
    simpa using hl)]
  exact h2
theorem grow_other {w : World} {g n i : Nat} {os : Array Obj} {F : Array Value} (hi : i < w.heap.size) (hne : i ≠ g) : (grow (putRow id (Sort.ahead w n) g 0 F) os).heap[i]? = w.heap[i]? := by
  show ((w.heap.modify g _) ++ os)[i]? = _
  rw [Array.getElem?_append_left (by simpa using hi), Array.getElem?_modify, if_neg (fun e => hne e.symm)]
theorem putCells_list (F cur : Array Value) (h : F.size ≤ cur.size) : (putCells id 0 F cur).toList.take F.size = F.toList := by
  apply List.ext_getElem?
  intro i
  rw [List.getElem?_take]
  by_cases hi : i < F.size
  · rw [if_pos hi]
    have hc : i < cur.size := by omega
    simp [putCells, hi, hc]
  · rw [if_neg hi, List.getElem?_eq_none (by simpa using hi)]
theorem own_putRow {w : World} {B t size g n cap m : Nat} {xs : List Value} {os : Array Obj} (h : w.ownsRow B t size (.slice (some ⟨g, 0, none⟩) n cap) n xs) (F : Array Value) (hF : F.size = n * size) :
    (grow (putRow id (Sort.ahead w m) g 0 F) os).ownsRow B t size (.slice (some ⟨g, 0, none⟩) n cap) n F.toList := by
  obtain ⟨cur, hg, hge, h1, h2, h3, h4⟩ := ownp_row h
  have hle : n * size ≤ cap * size := Nat.mul_le_mul_right _ h1
  refine ⟨by simpa using hF, .inr ⟨g, cap, _, rfl, hge, grow_block hg, h1, h2, by simpa [putCells] using h3, ?_⟩⟩
  rw [← hF]
  exact putCells_list F cur (by omega)
theorem below_putRow {w : World} {B g m : Nat} {os : Array Obj} {F : Array Value} (hB : B ≤ g) (hw : B ≤ w.heap.size) : Below B w (grow (putRow id (Sort.ahead w m) g 0 F) os) :=
  ⟨rfl, rfl, rfl, by
    show w.heap.size ≤ ((w.heap.modify g _) ++ os).size
    simp, fun i hi => grow_other (by omega) (by omega)⟩
abbrev Nd := Int × Option Addr × Nat × Nat
def ndV (x : Nd) : Value := .slice x.2.1 x.2.2.1 x.2.2.2
def ndE (x : Nd) : List Value := [.int .i64 x.1, ndV x]
def ndLt (x y : Nd) : Bool := decide (x.1 < y.1)
def ndCells (N : List Nd) : List Value := N.flatMap ndE
theorem flat_nd (N : List Nd) : (flatK ndE 2 N.toArray).toList = ndCells N := by
  apply List.ext_getElem?
  intro m
  have hl : (ndCells N).length = 2 * N.length := flat2_len ndE (fun _ => rfl) N
  by_cases hm : m < 2 * N.length
  · have hj : m / 2 < N.length := by omega
    have e : m = 2 * (m / 2) + m % 2 := by omega
    have hc : m % 2 < 2 := Nat.mod_lt _ (by decide)
    have h1 : (ndCells N)[m]? = (ndE N[m / 2])[m % 2]? := by
      have := flat2_get ndE (fun _ => rfl) N (m / 2) (m % 2) hj hc
      rw [← e] at this
      exact this
    rw [h1]
    have h2 : m < (flatK ndE 2 N.toArray).size := by simp; omega
    have h3 := get_flatK ndE 2 N.toArray m (by simp; omega)
    rw [getElem!_pos _ m h2] at h3
    rw [Array.getElem?_toList, Array.getElem?_eq_getElem h2, h3]
    have h4 : N.toArray[m / 2]! = N[m / 2] := by rw [getElem!_pos _ _ (by simpa using hj)]; simp
    rw [h4]
    have : m % 2 = 0 ∨ m % 2 = 1 := by omega
    rcases this with h | h <;> rw [h] <;> rfl
  · rw [List.getElem?_eq_none (by simp; omega), List.getElem?_eq_none (by omega)]
theorem holds_nd {w : World} {B g cap : Nat} {N : List Nd} (h : w.ownsRow B 179 2 (.slice (some ⟨g, 0, none⟩) N.length cap) N.length (ndCells N)) : HoldsK ndE 2 w g 0 N.toArray := fun j hj => by
  have e := flat_nd N
  have h1 : (ndCells N)[j]? = some (flatK ndE 2 N.toArray)[j]! := by
    rw [← e, Array.getElem?_toList, Array.getElem?_eq_getElem hj, getElem!_pos _ j hj]
  rw [Nat.zero_add]
  exact ⟨ownp_cell h h1, ownp_frozen h j⟩
end Go.Proofs.YtkmbgkcpohchhaaGreatDoor
namespace Go.Proofs.YtkmbgkcpohchhaaGreatDoor
open Go.RowKit Go.Shelf Go.Lib Go.Sort
set_option linter.unusedVariables false
set_option maxHeartbeats 2000000 in
theorem less_nd (rb cap Bs n : Nat) (W : World) (G : Nat → Int) (hs : W.cell? ⟨Bs, 0, none⟩ = some (.slice (some ⟨rb, 0, none⟩) n cap)) (hc : ∀ t, t < n → W.cell? ⟨rb, t * 2, none⟩ = some (.int .i64 (G t))) (i j : Nat) (hi : i < n) (hj : j < n) (hn : n < 4611686018427387904) :
    Calls Tryz.prog 146 #[.int .i64 i, .int .i64 j, .pointer (some ⟨Bs, 0, none⟩)] W fun e w' => e = .returned (.bool (decide (G i < G j))) ∧ ∃ q, w' = W.drewN q := by
  have ci := hc i hi
  have cj := hc j hj
  have hii : (i : Int) < n := by omega
  have hji : (j : Int) < n := by omega
  clear hc
  go_enter Tryz.func146, Tryz.ntmps146
  go_wp2
  go_quiet (fail)
  go_wp2
  go_ret
  exact ⟨rfl, nq, rfl⟩
theorem ndFacts : (Tryz.prog.info? 179).map (fun i => (i.hasPointers, i.bytes, i.size)) = some (true, 32, 2) := by kernel_rfl
theorem slFacts : (Tryz.prog.info? 174).map (fun i => i.desc) = some (.slice 179) := by kernel_rfl
theorem nd_swapper (ie : TypeInfo) (h1 : ie.hasPointers = true) (h2 : ie.bytes = 32) (n : Nat) (hn : 2 ≤ n) : Lib.swapperK n ie 25 = 9 := by
  have c : (n == 0) = false := by simp; omega
  have d : (n == 1) = false := by simp; omega
  simp [Lib.swapperK, h1, h2, c, d]
end Go.Proofs.YtkmbgkcpohchhaaGreatDoor
namespace Go.Proofs.YtkmbgkcpohchhaaGreatDoor
open Go.Sort
set_option linter.unusedVariables false
def insRev {α : Type} (lt : α → α → Bool) (x : α) : List α → List α
  | [] => [x]
  | y :: r => if lt x y then y :: insRev lt x r else x :: y :: r
def sortL {α : Type} (lt : α → α → Bool) (l : List α) : List α := (l.foldl (fun r x => insRev lt x r) []).reverse
theorem insRev_len {α : Type} (lt : α → α → Bool) (x : α) : ∀ l : List α, (insRev lt x l).length = l.length + 1
  | [] => rfl
  | y :: r => by
    unfold insRev
    split
    · simp [insRev_len lt x r]
    · simp
theorem insRev_mem {α : Type} (lt : α → α → Bool) (x : α) : ∀ (l : List α) (z : α), z ∈ insRev lt x l ↔ z = x ∨ z ∈ l
  | [], z => by simp [insRev]
  | y :: r, z => by
    unfold insRev
    split
    · simp only [List.mem_cons, insRev_mem lt x r z]
      constructor
      · rintro (h | h | h) <;> simp [h]
      · rintro (h | h | h) <;> simp [h]
    · simp
theorem fold_mem {α : Type} (lt : α → α → Bool) : ∀ (l r : List α) (z : α), z ∈ l.foldl (fun r x => insRev lt x r) r ↔ z ∈ l ∨ z ∈ r
  | [], r, z => by simp
  | x :: l, r, z => by
    rw [List.foldl_cons, fold_mem lt l _ z, insRev_mem]
    simp only [List.mem_cons]
    constructor
    · rintro (h | h | h) <;> simp [h]
    · rintro ((h | h) | h) <;> simp [h]
theorem fold_len {α : Type} (lt : α → α → Bool) : ∀ (l r : List α), (l.foldl (fun r x => insRev lt x r) r).length = l.length + r.length
  | [], r => by simp
  | x :: l, r => by
    rw [List.foldl_cons, fold_len lt l, insRev_len, List.length_cons]; omega
theorem sortL_mem {α : Type} (lt : α → α → Bool) (l : List α) (z : α) : z ∈ sortL lt l ↔ z ∈ l := by
  unfold sortL
  rw [List.mem_reverse, fold_mem]; simp
theorem sortL_len {α : Type} (lt : α → α → Bool) (l : List α) : (sortL lt l).length = l.length := by
  unfold sortL
  rw [List.length_reverse, fold_len]; simp
theorem insRev_map {α β : Type} (f : α → β) (lt : α → α → Bool) (lt' : β → β → Bool) (h : ∀ x y, lt x y = lt' (f x) (f y)) (x : α) : ∀ l : List α, (insRev lt x l).map f = insRev lt' (f x) (l.map f)
  | [] => rfl
  | y :: r => by
    unfold insRev
    rw [h x y]
    show _ = if lt' (f x) (f y) then _ else _
    split
    · rw [List.map_cons, insRev_map f lt lt' h x r]
    · rfl
theorem fold_map {α β : Type} (f : α → β) (lt : α → α → Bool) (lt' : β → β → Bool) (h : ∀ x y, lt x y = lt' (f x) (f y)) : ∀ l r : List α, (l.foldl (fun r x => insRev lt x r) r).map f = (l.map f).foldl (fun r x => insRev lt' x r) (r.map f)
  | [], r => rfl
  | x :: l, r => by
    rw [List.foldl_cons, List.map_cons, List.foldl_cons, fold_map f lt lt' h l, insRev_map f lt lt' h]
theorem sortL_map {α β : Type} (f : α → β) (lt : α → α → Bool) (lt' : β → β → Bool) (h : ∀ x y, lt x y = lt' (f x) (f y)) (l : List α) : (sortL lt l).map f = sortL lt' (l.map f) := by
  unfold sortL
  rw [List.map_reverse, fold_map f lt lt' h]
  rfl
section
variable {α : Type} [Inhabited α]
theorem get_mid (P S : List α) (x : α) : (P ++ x :: S).toArray[P.length]! = x := by
  rw [getElem!_pos _ _ (by simp)]
  simp
theorem swp_mid (P S : List α) (x y : α) : swp (P ++ y :: x :: S).toArray (P.length + 1) P.length = (P ++ x :: y :: S).toArray := by
  have h1 : (P ++ y :: x :: S).toArray[P.length + 1]! = x := by
    rw [getElem!_pos _ _ (by simp)]
    simp
  unfold swp
  rw [h1, get_mid]
  simp
end
end Go.Proofs.YtkmbgkcpohchhaaGreatDoor
namespace Go.Proofs.YtkmbgkcpohchhaaGreatDoor
open Go.Sort
set_option linter.unusedVariables false
variable {α : Type} [Inhabited α]
theorem swp_far (P Q R : List α) (x y : α) : swp (P ++ x :: (Q ++ y :: R)).toArray P.length (P.length + 1 + Q.length) = (P ++ y :: (Q ++ x :: R)).toArray := by
  have e : P ++ x :: (Q ++ y :: R) = (P ++ x :: Q) ++ y :: R := by simp
  have h1 : (P ++ x :: (Q ++ y :: R)).toArray[P.length + 1 + Q.length]! = y := by
    rw [e]
    have : P.length + 1 + Q.length = (P ++ x :: Q).length := by simp; omega
    rw [this, get_mid]
  unfold swp
  rw [h1, get_mid]
  have e2 : (P ++ x :: (Q ++ y :: R)).toArray.setIfInBounds P.length y = (P ++ y :: (Q ++ y :: R)).toArray := by simp
  rw [e2]
  have e3 : P ++ y :: (Q ++ y :: R) = (P ++ y :: Q) ++ y :: R := by simp
  have e4 : P.length + 1 + Q.length = (P ++ y :: Q).length := by simp; omega
  rw [e3, e4]
  simp
def swapR (d : Array α) (a b : Nat) : Nat → Array α
  | 0 => d
  | n + 1 => swp (swapR d a b n) (a + n) (b + n)
theorem swapR_list : ∀ (n : Nat) (X P Y Q Z : List α) (a b : Nat), X.length = a → P.length = n → Q.length = n → a + n + Y.length = b → swapR (X ++ P ++ Y ++ Q ++ Z).toArray a b n = (X ++ Q ++ Y ++ P ++ Z).toArray
  | 0, X, P, Y, Q, Z, a, b, _, hP, hQ, _ => by
    obtain rfl := List.length_eq_zero_iff.1 hP
    obtain rfl := List.length_eq_zero_iff.1 hQ
    rfl
  | n + 1, X, P, Y, Q, Z, a, b, hX, hP, hQ, hb => by
    obtain ⟨P', p, rfl⟩ : ∃ C p, P = C ++ [p] := by
      have hne : P ≠ [] := fun e => by rw [e] at hP; simp at hP
      exact ⟨P.dropLast, P.getLast hne, (List.dropLast_concat_getLast hne).symm⟩
    obtain ⟨Q', q, rfl⟩ : ∃ C p, Q = C ++ [p] := by
      have hne : Q ≠ [] := fun e => by rw [e] at hQ; simp at hQ
      exact ⟨Q.dropLast, Q.getLast hne, (List.dropLast_concat_getLast hne).symm⟩
    have hP' : P'.length = n := by simpa using hP
    have hQ' : Q'.length = n := by simpa using hQ
    have ih := swapR_list n X P' (p :: Y) Q' (q :: Z) a b hX hP' hQ' (by simp; omega)
    have e1 : X ++ (P' ++ [p]) ++ Y ++ (Q' ++ [q]) ++ Z = X ++ P' ++ (p :: Y) ++ Q' ++ (q :: Z) := by simp
    rw [swapR, e1, ih]
    have h := swp_far (X ++ Q') (Y ++ P') Z p q
    have l1 : (X ++ Q').length = a + n := by simp; omega
    have l2 : (X ++ Q').length + 1 + (Y ++ P').length = b + n := by simp; omega
    rw [l2, l1] at h
    have e2 : X ++ Q' ++ (p :: Y) ++ P' ++ (q :: Z) = X ++ Q' ++ p :: (Y ++ P' ++ q :: Z) := by simp
    have e3 : X ++ (Q' ++ [q]) ++ Y ++ (P' ++ [p]) ++ Z = X ++ Q' ++ q :: (Y ++ P' ++ p :: Z) := by simp
    rw [e2, e3]
    exact h
structure RotAt (d : Array α) (T : List α) (m i j : Nat) : Prop where
  at_ : ∃ X U V Z : List α, d = (X ++ U ++ V ++ Z).toArray ∧ X ++ V ++ U ++ Z = T ∧ X.length + i = m ∧ U.length = i ∧ V.length = j
theorem rot_more {d : Array α} {T : List α} {m i j : Nat} (h : RotAt d T m i j) (hij : j < i) : RotAt (swapR d (m - i) m j) T m (i - j) j := by
  obtain ⟨X, U, V, Z, rfl, hT, hX, hU, hV⟩ := h.at_
  have hs := swapR_list j X (U.take j) (U.drop j) V Z (m - i) m (by omega) (by simp; omega) hV (by simp; omega)
  have e : X ++ U.take j ++ U.drop j ++ V ++ Z = X ++ U ++ V ++ Z := by rw [List.append_assoc X, List.take_append_drop]
  rw [e] at hs
  refine ⟨X ++ V, U.drop j, U.take j, Z, hs, ?_, by simp; omega, by simp; omega, by simp; omega⟩
  rw [← hT]
  conv => rhs; rw [← List.take_append_drop j U]
  simp
theorem rot_less {d : Array α} {T : List α} {m i j : Nat} (h : RotAt d T m i j) (hij : i < j) : RotAt (swapR d (m - i) (m + j - i) i) T m i (j - i) := by
  obtain ⟨X, U, V, Z, rfl, hT, hX, hU, hV⟩ := h.at_
  have hs := swapR_list i X U (V.take (j - i)) (V.drop (j - i)) Z (m - i) (m + j - i) (by omega) hU (by simp; omega) (by simp; omega)
  have e : X ++ U ++ V.take (j - i) ++ V.drop (j - i) ++ Z = X ++ U ++ V ++ Z := by rw [List.append_assoc (X ++ U), List.take_append_drop]
  rw [e] at hs
  refine ⟨X, V.drop (j - i), V.take (j - i), U ++ Z, by rw [hs]; simp, ?_, hX, by simp; omega, by simp; omega⟩
  rw [← hT]
  conv => rhs; rw [← List.take_append_drop (j - i) V]
  simp
theorem rot_same {d : Array α} {T : List α} {m i : Nat} (h : RotAt d T m i i) : swapR d (m - i) m i = T.toArray := by
  obtain ⟨X, U, V, Z, rfl, hT, hX, hU, hV⟩ := h.at_
  have hs := swapR_list i X U [] V Z (m - i) m (by omega) hU hV (by simp; omega)
  rw [List.append_nil] at hs
  rw [hs, List.append_nil, hT]
end Go.Proofs.YtkmbgkcpohchhaaGreatDoor
namespace Go.Proofs.YtkmbgkcpohchhaaGreatDoor
open Go.RowKit Go.Shelf Go.Lib Go.Sort
set_option linter.unusedVariables false
variable {α : Type} [Inhabited α]
theorem swapR_size (d : Array α) (a b : Nat) : ∀ n, (swapR d a b n).size = d.size
  | 0 => rfl
  | n + 1 => by rw [swapR, size_swp, swapR_size d a b n]
set_option maxHeartbeats 1600000 in
set_option maxRecDepth 100000 in
theorem swapRange_ok (enc : α → List Value) (k : Nat) (hk : ∀ x, (enc x).length = k) (g : Nat) (lb : Array Value) (sf : Nat) (sb : Array Value) (blk off : Nat) (d : Array α) (a b cnt : Nat) (W : World)
    (hswap : SwapSwapsK Tryz.prog sf sb enc k blk off d.size) (hH : HoldsK enc k W blk off d) (hblk : blk < W.heap.size) (ha : a + cnt ≤ d.size) (hb : b + cnt ≤ d.size) (hsz : d.size < 4611686018427387904) :
    Calls Tryz.prog 164 #[.agg #[.func (.func g) #[] lb, .func (.func sf) #[] sb], .int .i64 a, .int .i64 b, .int .i64 cnt] W fun e w' => e = .returned (.tuple #[]) ∧ ∃ n os, w' = sortWorldK enc k W blk off n (swapR d a b cnt) os := by
  have hH1 : HoldsK enc k (W.alloc (.cells #[.func (.func g) #[] lb, .func (.func sf) #[] sb] 220)) blk off d := by rw [alloc_eq_grow]; exact holdsK_grow enc k W _ blk off d hblk hH
  go_enter Tryz.func164, Tryz.ntmps164
  go_wp2
  go_loopw [8] (fun vi wr => ∃ i n : Nat, vi = .int .i64 i ∧ i ≤ cnt ∧ wr = putRowK enc k (Sort.ahead (W.alloc (.cells #[.func (.func g) #[] lb, .func (.func sf) #[] sb] 220)) n) blk off (swapR d a b i)) (fun vi _ => cnt - (intOf vi).toNat)
  case atStart => exact ⟨0, 0, rfl, Nat.zero_le _, (putRowK_self _ _ _ _ _ _ hH1).symm⟩
  case round =>
    obtain ⟨i, n, rfl, hi, hwr⟩ := hrel
    rename World => wr
    have c1 : wr.cell? ⟨W.heap.size, 1, none⟩ = some (.func (.func sf) #[] sb) := by
      rw [hwr, cell?_putRowK_other enc k _ blk off _ _ (by show W.heap.size ≠ blk; omega)]
      show (W.alloc (.cells #[.func (.func g) #[] lb, .func (.func sf) #[] sb] 220)).cell? ⟨W.heap.size, 1, none⟩ = _
      simp
    have hHw : HoldsK enc k wr blk off (swapR d a b i) := by
      rw [hwr]; exact holdsK_putRowK enc k _ blk off d _ (holdsK_ahead _ _ _ _ _ _ _ hH1) (swapR_size d a b i)
    have HW := hid hwr
    clear hwr
    by_cases hlt : i < cnt
    · have hlti : (i : Int) < cnt := by omega
      have hs := hswap wr (swapR d a b i) hHw (swapR_size d a b i) (a + i) (b + i) (by omega) (by omega)
      rw [show ((a + i : Nat) : Int) = (a : Int) + i by omega, show ((b + i : Nat) : Int) = (b : Int) + i by omega] at hs
      go_wp2
      go_roundw
      case rel =>
        refine ⟨i + 1, n, by go_num, hlt, ?_⟩
        have h1 := swap_worldK enc k hk (W.alloc (.cells #[.func (.func g) #[] lb, .func (.func sf) #[] sb] 220)) n 0 blk off (swapR d a b i) (a + i) (b + i) (by rw [swapR_size]; omega) (by rw [swapR_size]; omega)
        rw [HW.out]
        exact h1
      case measure => simp [intOf]; omega
    · obtain rfl : i = cnt := by omega
      have hnlt : ¬ (i : Int) < i := by omega
      go_wp2
      go_end0
      refine ⟨rfl, n, #[.cells #[.func (.func g) #[] lb, .func (.func sf) #[] sb] 220], ?_⟩
      rw [HW.out]
      unfold sortWorldK
      rw [alloc_eq_grow, ahead_grow, putRowK_grow enc k (Sort.ahead W n) _ blk off _ hblk]
end Go.Proofs.YtkmbgkcpohchhaaGreatDoor
namespace Go.Proofs.YtkmbgkcpohchhaaGreatDoor
open Go.RowKit Go.Shelf Go.Lib Go.Sort
set_option linter.unusedVariables false
variable {α : Type} [Inhabited α]
omit [Inhabited α] in
theorem rot_bounds {d : Array α} {T : List α} {m i j : Nat} (h : RotAt d T m i j) : i ≤ m ∧ m + j ≤ d.size := by
  obtain ⟨X, U, V, Z, rfl, _, h1, h2, h3⟩ := h.at_
  refine ⟨by omega, ?_⟩
  simp; omega
theorem swk_has {enc : α → List Value} {k : Nat} {w0 W : World} {blk off : Nat} {dk : Array α} (h : SWK enc k w0 blk off dk W) {g : Nat} {t : TypeId} {cs : Array Value} (hg : Has w0 g t cs) (hne : g ≠ blk) : Has W g t cs := by
  obtain ⟨n, os, rfl⟩ := h
  have hl := hg.lt
  unfold Has at hg ⊢
  rw [← hg]
  show ((w0.heap.modify blk _) ++ os)[g]? = _
  rw [Array.getElem?_append_left (by simpa using hl), Array.getElem?_modify, if_neg (fun e => hne e.symm)]
set_option maxHeartbeats 1600000 in
set_option maxRecDepth 100000 in
theorem rotate_ok (enc : α → List Value) (k : Nat) (hk : ∀ x, (enc x).length = k) (g : Nat) (lb : Array Value) (sf : Nat) (sb : Array Value) (blk off : Nat) (d : Array α) (T : List α) (a m b : Nat) (W : World)
    (hswap : SwapSwapsK Tryz.prog sf sb enc k blk off d.size) (hH : HoldsK enc k W blk off d) (hblk : blk < W.heap.size) (ham : a < m) (hmb : m < b) (hR : RotAt d T m (m - a) (b - m)) (hsz : d.size < 4611686018427387904) :
    Calls Tryz.prog 163 #[.agg #[.func (.func g) #[] lb, .func (.func sf) #[] sb], .int .i64 a, .int .i64 m, .int .i64 b] W fun e w' => e = .returned (.tuple #[]) ∧ SWK enc k W blk off T.toArray w' := by
  have HLS := hid (Has.new W 220 #[.func (.func g) #[] lb, .func (.func sf) #[] sb])
  have hbd := rot_bounds hR
  have HH := hid hH
  have HR := hid hR
  clear hH hR
  obtain ⟨W1, hW1⟩ : ∃ w, W.alloc (.cells #[.func (.func g) #[] lb, .func (.func sf) #[] sb] 220) = w := ⟨_, rfl⟩
  have hge : W.heap.size < W1.heap.size := by rw [← hW1]; simp
  have hH1 : HoldsK enc k W1 blk off d := by rw [← hW1, alloc_eq_grow]; exact holdsK_grow enc k W _ blk off d hblk HH.out
  have HH1 := hid hH1
  clear hH1
  go_enter Tryz.func163, Tryz.ntmps163
  go_wp2
  rw [hW1] at HLS
  have HW1 := hid hW1
  clear hW1
  go_loopw [8, 9] (fun vi vj wr => ∃ (i j : Nat) (dk : Array α), vi = .int .i64 i ∧ vj = .int .i64 j ∧ 0 < i ∧ 0 < j ∧ dk.size = d.size ∧ RotAt dk T m i j ∧ SWK enc k W1 blk off dk wr) (fun vi vj _ => (intOf vi).toNat + (intOf vj).toNat)
  case atStart => exact ⟨m - a, b - m, d, by go_num, by go_num, by omega, by omega, rfl, HR.out, SWK.start HH1.out⟩
  case round =>
    obtain ⟨i, j, dk, rfl, rfl, hi0, hj0, hds, hrot, hsw⟩ := hrel
    rename World => wr
    have hls := swk_has hsw HLS.out (by omega)
    have c0 := hls.cell 0
    have c1 := hls.cell 1
    have hb2 := rot_bounds hrot
    have HROT := hid hrot
    have HSW := hid hsw
    have hblk1 : blk < W1.heap.size := by omega
    have hSR := fun (x y n : Nat) (h1 : x + n ≤ dk.size) (h2 : y + n ≤ dk.size) => swapRange_ok enc k hk g lb sf sb blk off dk x y n wr (hds ▸ hswap) (HSW.out.holds hblk1 HH1.out hds) (HSW.out.lt hblk1) h1 h2 (by omega)
    have HSR := hid hSR
    clear hls hrot hsw hSR
    by_cases hne : i = j
    · subst hne
      have hc := HSR.out (m - i) m i (by omega) (by omega)
      rw [show ((m - i : Nat) : Int) = (m : Int) - i by omega, rot_same HROT.out] at hc
      have HC := hid hc
      clear hc HSR
      have t0 : ((i : Int) != (i : Int)) = false := by simp
      go_wp2_with fail
      refine HC.out.mono ?_
      rintro e w2 ⟨rfl, n2, os2, rfl⟩
      have hs2 : SWK enc k W1 blk off T.toArray (sortWorldK enc k wr blk off n2 T.toArray os2) := HSW.out.on hblk1 n2 T.toArray os2 (by rw [← rot_same HROT.out, swapR_size])
      go_wp2
      go_end0
      refine ⟨rfl, ?_⟩
      obtain ⟨n3, os3, e3⟩ := hs2
      rw [e3, ← HW1.out]
      refine ⟨n3, #[.cells #[.func (.func g) #[] lb, .func (.func sf) #[] sb] 220] ++ os3, ?_⟩
      unfold sortWorldK
      rw [alloc_eq_grow, ahead_grow, putRowK_grow enc k (Sort.ahead W n3) _ blk off _ hblk, grow_grow]
    · have t0 : ((i : Int) != (j : Int)) = true := by simp; omega
      by_cases hij : j < i
      · have t1 : (j : Int) < i := by omega
        have hc := HSR.out (m - i) m j (by omega) (by omega)
        rw [show ((m - i : Nat) : Int) = (m : Int) - i by omega] at hc
        have HC := hid hc
        clear hc HSR
        go_wp2_with fail
        refine HC.out.mono ?_
        rintro e w2 ⟨rfl, n2, os2, rfl⟩
        go_wp2
        go_roundw
        case rel => exact ⟨i - j, j, swapR dk (m - i) m j, by go_num, rfl, by omega, hj0, by rw [swapR_size]; exact hds, rot_more HROT.out hij, HSW.out.on hblk1 n2 _ os2 (swapR_size ..)⟩
        case measure => simp [intOf]; omega
      · have t1 : ¬ (j : Int) < i := by omega
        have hc := HSR.out (m - i) (m + j - i) i (by omega) (by omega)
        rw [show ((m - i : Nat) : Int) = (m : Int) - i by omega, show ((m + j - i : Nat) : Int) = (m : Int) + j - i by omega] at hc
        have HC := hid hc
        clear hc HSR
        go_wp2_with fail
        refine HC.out.mono ?_
        rintro e w2 ⟨rfl, n2, os2, rfl⟩
        go_wp2
        go_roundw
        case rel => exact ⟨i, j - i, swapR dk (m - i) (m + j - i) i, rfl, by go_num, hi0, by omega, by rw [swapR_size]; exact hds, rot_less HROT.out (by omega), HSW.out.on hblk1 n2 _ os2 (swapR_size ..)⟩
        case measure => simp [intOf]; omega
end Go.Proofs.YtkmbgkcpohchhaaGreatDoor
