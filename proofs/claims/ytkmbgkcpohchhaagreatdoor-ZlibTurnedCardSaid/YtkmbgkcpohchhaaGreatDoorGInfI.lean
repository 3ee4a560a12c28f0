import Derived.Test.YtkmbgkcpohchhaaGreatDoorGDefN
import Derived.Test.YtkmbgkcpohchhaaGreatDoorGInfD
import Derived.Deep.RegionWith
import Derived.Test.YtkmbgkcpohchhaaGreatDoorGHufU
import Derived.Deep.CutRange
import Derived.Deep.CutBlock
import Derived.RegionDies
import Derived.Deep.RegionHeld3
namespace Go.Proofs.YtkmbgkcpohchhaaGreatDoor
open Go.RowKit Go.Conc
set_option linter.unusedVariables false
def fA (l : List Int) (n k : Nat) : Array Value := ((List.range n).map fun i => Value.int .i64 (if i < k then l.getD i 0 else 0)).toArray
theorem fA_get (l : List Int) (n k i : Nat) (h : i < n) : (fA l n k)[i]? = some (.int .i64 (if i < k then l.getD i 0 else 0)) := by simp [fA, h]
theorem fA_put (l : List Int) (n k : Nat) (hk : k < n) : (fA l n k).setIfInBounds k (.int .i64 (l.getD k 0)) = fA l n (k + 1) := by
  apply Array.ext_getElem?
  intro i
  have hsz : (fA l n k).size = n := by simp [fA]
  rw [Array.getElem?_setIfInBounds, hsz]
  by_cases hi : i < n
  · rw [fA_get l n (k + 1) i hi]
    by_cases e : k = i
    · subst e
      rw [if_pos rfl, if_pos hk, if_pos (by omega)]
    · rw [if_neg e, fA_get l n k i hi]
      by_cases h : i < k
      · rw [if_pos h, if_pos (by omega)]
      · rw [if_neg h, if_neg (by omega)]
  · have h1 : (fA l n (k + 1))[i]? = none := Array.getElem?_eq_none (by simp [fA]; omega)
    rw [h1]
    by_cases e : k = i
    · omega
    · rw [if_neg e]; exact Array.getElem?_eq_none (by rw [hsz]; omega)
theorem fA_zs {w : World} {b : Nat} {t : TypeId} {l : List Int} {n : Nat} (h : Has w b t (fA l n n)) (hl : l.length = n) : ZsAt w (some ⟨b, 0, none⟩) l := fun i hi => by
  refine ⟨b, 0, rfl, h.lt, ?_⟩
  rw [Nat.zero_add, h.cell i, fA_get l n n i (by omega), if_pos (by omega)]
  simp [List.getD, hi]
set_option maxRecDepth 100000 in
theorem zero288 : Tryz.zeroCells186 = fA fixL 288 0 := by kernel_rfl
set_option maxRecDepth 100000 in
theorem zero32 : (#[.int .i64 0, .int .i64 0, .int .i64 0, .int .i64 0, .int .i64 0, .int .i64 0, .int .i64 0, .int .i64 0, .int .i64 0, .int .i64 0, .int .i64 0, .int .i64 0, .int .i64 0, .int .i64 0, .int .i64 0, .int .i64 0, .int .i64 0, .int .i64 0, .int .i64 0, .int .i64 0, .int .i64 0, .int .i64 0, .int .i64 0, .int .i64 0, .int .i64 0, .int .i64 0, .int .i64 0, .int .i64 0, .int .i64 0, .int .i64 0, .int .i64 0, .int .i64 0] : Array Value) = fA fixD 32 0 := by kernel_rfl
theorem fixD_get (i : Nat) (h : i < 32) : fixD.getD i 0 = 5 := by
  have : (List.range 32).all (fun i => decide (fixD.getD i 0 = 5)) = true := by decide +kernel
  exact of_decide_eq_true (List.all_eq_true.1 this i (List.mem_range.2 h))
def FixC (B : Nat) (w : World) (fb g : Nat) (s : ByteArray) (k : Nat) (out : List UInt8) (lim : Nat) (v : Value) (e : Ending) (w' : World) : Prop :=
  ∃ tl td : Nat, e = .returned (.agg #[.pointer (some ⟨tl, 0, none⟩), .pointer (some ⟨td, 0, none⟩)]) ∧ Inf B w' fb g s k out lim v (some ⟨tl, 0, none⟩) (some ⟨td, 0, none⟩) ∧ KT TI B w w'
theorem newC_fix {l1 l2 : List Int} {w w' : World} {e : Ending} (h : (checkE l1 ≠ 0 ∧ e = pan (checkE l1)) ∨ (checkE l1 = 0 ∧ checkE l2 ≠ 0 ∧ e = pan (checkE l2)) ∨
    (checkE l1 = 0 ∧ checkE l2 = 0 ∧ ∃ tl td : Nat, e = .returned (.agg #[.pointer (some ⟨tl, 0, none⟩), .pointer (some ⟨td, 0, none⟩)]) ∧ w.heap.size ≤ tl ∧ w.heap.size ≤ td ∧ TabOf w' w.heap.size tl l1 ∧ TabOf w' w.heap.size td l2)) (h1 : checkE l1 = 0 := by first | exact fixL_code) (h2 : checkE l2 = 0 := by first | exact fixD_code) :
    ∃ tl td : Nat, e = .returned (.agg #[.pointer (some ⟨tl, 0, none⟩), .pointer (some ⟨td, 0, none⟩)]) ∧ TabOf w' w.heap.size tl l1 ∧ TabOf w' w.heap.size td l2 := by
  rcases h with ⟨hx, _⟩ | ⟨_, hx, _⟩ | ⟨_, _, tl, td, rfl, ht1, ht2, hT1, hT2⟩
  · exact absurd h1 hx
  · exact absurd h2 hx
  · exact ⟨tl, td, rfl, hT1, hT2⟩
theorem KT.fresh {T : List TypeId} {B nb : Nat} {a b : World} (h : KT T B a b) (hs : a.heap.size ≤ nb) (x y : Value) : KT T B a ((b.setCell ⟨nb, 0, none⟩ x).setCell ⟨nb, 1, none⟩ y) := by
  have k : ∀ {d : World} (u : Value) (o : Nat), KT T B a d → KT T B a (d.setCell ⟨nb, o, none⟩ u) := fun {d} u o hd =>
    ⟨hd.os, hd.tape, hd.output, by simpa [World.setCell] using hd.size, fun i hi hn => (Below.heap_setCell d ⟨nb, o, none⟩ u i (by show i ≠ nb; omega)).trans (hd.block i hi hn)⟩
  exact k y 1 (k x 0 h)
theorem Inf.other {B : Nat} {w w' : World} {fb g : Nat} {s : ByteArray} {k : Nat} {out : List UInt8} {lim : Nat} {v : Value} {pl pd : Option Addr} (h : Inf B w fb g s k out lim v pl pd) {T : List TypeId} (hk : KT T B w w')
    (h1 : 96 ∉ T) (h2 : 142 ∉ T) (h3 : 5 ∉ T) (h4 : 204 ∉ T) (h5 : 210 ∉ T) : Inf B w' fb g s k out lim v pl pd :=
  ⟨hk.has h.has h1, hk.has h.rd h2, hk.own h.own h3, h.fix.kt hk h4 h5, h.fb, h.gb, h.k8, h.few, h.tabs.kt hk (Nat.le_refl _)⟩
section
variable {B : Nat} {w : World} {fb g : Nat} {s : ByteArray} {k : Nat} {out : List UInt8} {lim : Nat} {v : Value} {pl pd : Option Addr}
theorem Inf.fixSet (h : Inf B w fb g s k out lim v pl pd) {tl td : Nat} (h1 : TabOf w B tl fixL) (h2 : TabOf w B td fixD) :
    Inf B ((w.setCell ⟨fb, 3, none⟩ (.pointer (some ⟨tl, 0, none⟩))).setCell ⟨fb, 4, none⟩ (.pointer (some ⟨td, 0, none⟩))) fb g s k out lim v (some ⟨tl, 0, none⟩) (some ⟨td, 0, none⟩) ∧
      KT TI B w ((w.setCell ⟨fb, 3, none⟩ (.pointer (some ⟨tl, 0, none⟩))).setCell ⟨fb, 4, none⟩ (.pointer (some ⟨td, 0, none⟩))) := by
  have k1 : KT TI B w (w.setCell ⟨fb, 3, none⟩ (.pointer (some ⟨tl, 0, none⟩))) := (KT.refl w).setCell (p := ⟨fb, 3, none⟩) h.fb (h.has.hot (by decide)) _
  have h3 := h.has.put 3 (.pointer (some ⟨tl, 0, none⟩))
  have k2 : KT TI B w ((w.setCell ⟨fb, 3, none⟩ (.pointer (some ⟨tl, 0, none⟩))).setCell ⟨fb, 4, none⟩ (.pointer (some ⟨td, 0, none⟩))) := k1.setCell (p := ⟨fb, 4, none⟩) h.fb (h3.hot (by decide)) _
  have h4 := h3.put 4 (.pointer (some ⟨td, 0, none⟩))
  have o3 : (w.setCell ⟨fb, 3, none⟩ (.pointer (some ⟨tl, 0, none⟩))).ownsRow B 5 1 v out.length (bcs out) := own_keep h.own fun b hb => Below.heap_setCell w _ _ b fun e => own_ne_has h.own h.has (by decide) (by rw [hb, e])
  refine ⟨⟨by simpa using h4, (h.rd.far (fun e => h.ne e.symm) _).far (fun e => h.ne e.symm) _, own_keep o3 fun b hb => Below.heap_setCell _ _ _ b fun e => own_ne_has o3 h3 (by decide) (by rw [hb, e]), ?_, h.fb, h.gb, h.k8, h.few, h.tabs.kt k2 (Nat.le_refl _)⟩, k2⟩
  exact .inr ⟨tl, td, rfl, rfl, k2.tab h1 (by decide) (by decide), k2.tab h2 (by decide) (by decide)⟩
set_option maxRecDepth 100000 in
set_option maxHeartbeats 4000000 in
theorem fixed_old (tl td : Nat) (h : Inf B w fb g s k out lim v (some ⟨tl, 0, none⟩) (some ⟨td, 0, none⟩)) :
    Calls Tryz.prog 108 #[.pointer (some ⟨fb, 0, none⟩)] w (FixC B w fb g s k out lim v) := by
  have c3 : w.cell? ⟨fb, 3, none⟩ = some (.pointer (some ⟨tl, 0, none⟩)) := h.has.cell 3
  have c4 : w.cell? ⟨fb, 4, none⟩ = some (.pointer (some ⟨td, 0, none⟩)) := h.has.cell 4
  have HI := hid h
  have HW := hid (show Bw w (w.alloc (.cells #[.pointer none, .pointer none] 94)) from (Bw.refl w).alloc _)
  have HN := hid (Has.new w 94 #[.pointer none, .pointer none])
  have d3 := HW.out.cell c3
  have d4 := HW.out.cell c4
  have HX := hid (show Bw w (w.alloc (.cells #[.pointer (some ⟨tl, 0, none⟩), .pointer (some ⟨td, 0, none⟩)] 94)) from (Bw.refl w).alloc _)
  clear h c3 c4
  go_enter Tryz.func108, Tryz.ntmps108
  go_wp2
  try simp only [Exit.inBlock, Exit.then]
  refine bodyPost_ret (by simp [results, Tryz.results108, go_sem]; try rfl) rfl ?_
  exact ⟨tl, td, rfl, HI.out.bw HX.out, KT.of_bw HX.out⟩
set_option maxRecDepth 100000 in
set_option maxHeartbeats 4000000 in
theorem fixed_new (h : Inf B w fb g s k out lim v none none) :
    Calls Tryz.prog 108 #[.pointer (some ⟨fb, 0, none⟩)] w (FixC B w fb g s k out lim v) := by
  have c3 : w.cell? ⟨fb, 3, none⟩ = some (.pointer none) := h.has.cell 3
  have HI := hid h
  have HW := hid (show Bw w (w.alloc (.cells #[.pointer none, .pointer none] 94)) from (Bw.refl w).alloc _)
  have HN := hid (Has.new w 94 #[.pointer none, .pointer none])
  have hz1 : (w.alloc (.cells #[.pointer none, .pointer none] 94)).heap.size = w.heap.size + 1 := by simp
  have d3 := HW.out.cell c3
  clear c3 h
  go_enter Tryz.func108, Tryz.ntmps108
  go_wp2_with fail
  obtain ⟨nb, hnb⟩ : ∃ nb, w.heap.size = nb := ⟨_, rfl⟩
  rw [hnb] at HN hz1 ⊢
  generalize w.alloc (.cells #[.pointer none, .pointer none] 94) = W1 at *
  have HA := hid (show Has (W1.alloc (.cells Tryz.zeroCells186 186)) (nb + 1) 186 (fA fixL 288 0) from (by have := Has.new W1 186 Tryz.zeroCells186; rw [hz1] at this; exact this.eq zero288))
  have HW2 := hid ((HW.out.alloc (.cells Tryz.zeroCells186 186)))
  have HN2 := hid (HN.out.alloc (.cells Tryz.zeroCells186 186))
  have hz2 : (W1.alloc (.cells Tryz.zeroCells186 186)).heap.size = nb + 2 := by simp [hz1]
  have HZ := hid hz2
  have HNB := hid hnb
  clear hnb hz1 d3 hz2
  generalize W1.alloc (.cells Tryz.zeroCells186 186) = W2 at *
  go_loopw [4, 13] (fun a i wr => ∃ j : Nat, j ≤ 288 ∧ i = .int .i64 j ∧ Bw w wr ∧ Has wr nb 94 #[.pointer none, .pointer none] ∧ Has wr (nb + 1) 186 (fA fixL 288 j) ∧ Hid (wr.heap.size = nb + 2)) (fun _ i _ => 288 - (intOf i).toNat)
  case atStart => exact ⟨0, by omega, rfl, HW2.out, HN2.out, HA.out, HZ.out⟩
  case round =>
    rename World => wr
    obtain ⟨j, hj, rfl, hb, hn, ha, HZr⟩ := hrel
    have HB := hid hb
    have HN3 := hid hn
    have HA3 := hid ha
    clear hb hn ha
    by_cases hlt : j < 288
    · have hj1 : (j : Int) < 288 := by omega
      go_wp2_with fail
      refine (fixedLength_any_i j hlt _).mono ?_
      rintro e w2 ⟨rfl, rfl⟩
      have HA4 := hid (HA3.out.put j (.int .i64 (fixL.getD j 0)))
      rw [fA_put fixL 288 j hlt] at HA4
      have f0 : w2.frozen? ⟨nb + 1, j, none⟩ = false := HA3.out.frozen j
      have g0 : w2.cell? ⟨nb + 1, j, none⟩ = some (.int .i64 0) := by rw [HA3.out.cell j, fA_get _ _ _ _ hlt, if_neg (by omega)]
      have HNB2 := hid (show ∀ u, Bw w (w2.setCell ⟨nb + 1, j, none⟩ u) from fun u => Below.setCell HB.out (show w.heap.size ≤ nb + 1 by have := HNB.out; omega) u)
      have HN4 := hid (HN3.out.far (p := ⟨nb + 1, j, none⟩) (show nb ≠ nb + 1 by omega) (.int .i64 (fixL.getD j 0)))
      have HZ4 := hid (show (w2.setCell ⟨nb + 1, j, none⟩ (.int .i64 (fixL.getD j 0))).heap.size = nb + 2 by rw [← HZr.out]; simp [World.setCell])
      clear hlt
      go_wp2
      exact ⟨⟨j + 1, by omega, by go_num, HNB2.out _, HN4.out, HA4.out, HZ4.out⟩, by simp [intOf]; omega⟩
    · have HJ := hid (show j = 288 by omega)
      have hj2 : ¬ (j : Int) < 288 := by omega
      have HB5 := hid (HB.out.alloc (.cells #[.int .i64 0, .int .i64 0, .int .i64 0, .int .i64 0, .int .i64 0, .int .i64 0, .int .i64 0, .int .i64 0, .int .i64 0, .int .i64 0, .int .i64 0, .int .i64 0, .int .i64 0, .int .i64 0, .int .i64 0, .int .i64 0, .int .i64 0, .int .i64 0, .int .i64 0, .int .i64 0, .int .i64 0, .int .i64 0, .int .i64 0, .int .i64 0, .int .i64 0, .int .i64 0, .int .i64 0, .int .i64 0, .int .i64 0, .int .i64 0, .int .i64 0, .int .i64 0] 187))
      have HN5 := hid (HN3.out.alloc (.cells #[.int .i64 0, .int .i64 0, .int .i64 0, .int .i64 0, .int .i64 0, .int .i64 0, .int .i64 0, .int .i64 0, .int .i64 0, .int .i64 0, .int .i64 0, .int .i64 0, .int .i64 0, .int .i64 0, .int .i64 0, .int .i64 0, .int .i64 0, .int .i64 0, .int .i64 0, .int .i64 0, .int .i64 0, .int .i64 0, .int .i64 0, .int .i64 0, .int .i64 0, .int .i64 0, .int .i64 0, .int .i64 0, .int .i64 0, .int .i64 0, .int .i64 0, .int .i64 0] 187))
      have HA5 := hid (HA3.out.alloc (.cells #[.int .i64 0, .int .i64 0, .int .i64 0, .int .i64 0, .int .i64 0, .int .i64 0, .int .i64 0, .int .i64 0, .int .i64 0, .int .i64 0, .int .i64 0, .int .i64 0, .int .i64 0, .int .i64 0, .int .i64 0, .int .i64 0, .int .i64 0, .int .i64 0, .int .i64 0, .int .i64 0, .int .i64 0, .int .i64 0, .int .i64 0, .int .i64 0, .int .i64 0, .int .i64 0, .int .i64 0, .int .i64 0, .int .i64 0, .int .i64 0, .int .i64 0, .int .i64 0] 187))
      have HD5 := hid (show Has (wr.alloc (.cells #[.int .i64 0, .int .i64 0, .int .i64 0, .int .i64 0, .int .i64 0, .int .i64 0, .int .i64 0, .int .i64 0, .int .i64 0, .int .i64 0, .int .i64 0, .int .i64 0, .int .i64 0, .int .i64 0, .int .i64 0, .int .i64 0, .int .i64 0, .int .i64 0, .int .i64 0, .int .i64 0, .int .i64 0, .int .i64 0, .int .i64 0, .int .i64 0, .int .i64 0, .int .i64 0, .int .i64 0, .int .i64 0, .int .i64 0, .int .i64 0, .int .i64 0, .int .i64 0] 187)) (nb + 2) 187 (fA fixD 32 0) from (by have := Has.new wr 187 #[.int .i64 0, .int .i64 0, .int .i64 0, .int .i64 0, .int .i64 0, .int .i64 0, .int .i64 0, .int .i64 0, .int .i64 0, .int .i64 0, .int .i64 0, .int .i64 0, .int .i64 0, .int .i64 0, .int .i64 0, .int .i64 0, .int .i64 0, .int .i64 0, .int .i64 0, .int .i64 0, .int .i64 0, .int .i64 0, .int .i64 0, .int .i64 0, .int .i64 0, .int .i64 0, .int .i64 0, .int .i64 0, .int .i64 0, .int .i64 0, .int .i64 0, .int .i64 0]; rw [HZr.out] at this; exact this.eq zero32))
      have hzr : wr.heap.size = nb + 2 := HZr.out
      go_wp2_with fail
      have HZ5 := hid (show (wr.alloc (.cells #[.int .i64 0, .int .i64 0, .int .i64 0, .int .i64 0, .int .i64 0, .int .i64 0, .int .i64 0, .int .i64 0, .int .i64 0, .int .i64 0, .int .i64 0, .int .i64 0, .int .i64 0, .int .i64 0, .int .i64 0, .int .i64 0, .int .i64 0, .int .i64 0, .int .i64 0, .int .i64 0, .int .i64 0, .int .i64 0, .int .i64 0, .int .i64 0, .int .i64 0, .int .i64 0, .int .i64 0, .int .i64 0, .int .i64 0, .int .i64 0, .int .i64 0, .int .i64 0] 187)).heap.size = nb + 3 by simp [hzr])
      clear hzr hj2
      generalize wr.alloc (.cells #[.int .i64 0, .int .i64 0, .int .i64 0, .int .i64 0, .int .i64 0, .int .i64 0, .int .i64 0, .int .i64 0, .int .i64 0, .int .i64 0, .int .i64 0, .int .i64 0, .int .i64 0, .int .i64 0, .int .i64 0, .int .i64 0, .int .i64 0, .int .i64 0, .int .i64 0, .int .i64 0, .int .i64 0, .int .i64 0, .int .i64 0, .int .i64 0, .int .i64 0, .int .i64 0, .int .i64 0, .int .i64 0, .int .i64 0, .int .i64 0, .int .i64 0, .int .i64 0] 187) = W5 at *
      go_loopw [6, 21] (fun a i wi => ∃ m : Nat, m ≤ 32 ∧ i = .int .i64 m ∧ Bw w wi ∧ Has wi nb 94 #[.pointer none, .pointer none] ∧ Has wi (nb + 1) 186 (fA fixL 288 j) ∧ Has wi (nb + 2) 187 (fA fixD 32 m)) (fun _ i _ => 32 - (intOf i).toNat)
      case atStart => exact ⟨0, by omega, rfl, HB5.out, HN5.out, HA5.out, HD5.out⟩
      case round =>
        rename World => wi
        obtain ⟨m, hm, rfl, hb, hn, ha, hd⟩ := hrel
        have HB6 := hid hb
        have HN6 := hid hn
        have HA6 := hid ha
        have HD6 := hid hd
        clear hb hn ha hd
        by_cases hlt : m < 32
        · have hm1 : (m : Int) < 32 := by omega
          have HD7 := hid (HD6.out.put m (.int .i64 5))
          rw [← fixD_get m hlt, fA_put fixD 32 m hlt, fixD_get m hlt] at HD7
          have f0 : wi.frozen? ⟨nb + 2, m, none⟩ = false := HD6.out.frozen m
          have g0 : wi.cell? ⟨nb + 2, m, none⟩ = some (.int .i64 0) := by rw [HD6.out.cell m, fA_get _ _ _ _ hlt, if_neg (by omega)]
          have HB7 := hid (show Bw w (wi.setCell ⟨nb + 2, m, none⟩ (.int .i64 5)) from Below.setCell HB6.out (show w.heap.size ≤ nb + 2 by have := HNB.out; omega) _)
          have HN7 := hid (HN6.out.far (p := ⟨nb + 2, m, none⟩) (show nb ≠ nb + 2 by omega) (.int .i64 5))
          have HA7 := hid (HA6.out.far (p := ⟨nb + 2, m, none⟩) (show nb + 1 ≠ nb + 2 by omega) (.int .i64 5))
          clear hlt
          go_wp2
          exact ⟨⟨m + 1, by omega, by go_num, HB7.out, HN7.out, HA7.out, HD7.out⟩, by simp [intOf]; omega⟩
        · have HM := hid (show m = 32 by omega)
          have hm2 : ¬ (m : Int) < 32 := by omega
          have HZA := hid (fA_zs (HA6.out.eq (by rw [HJ.out])) fixL_len)
          have HZD := hid (fA_zs (HD6.out.eq (by rw [HM.out])) fixD_len)
          go_wp2_with fail
          go_region_with (first | (go_at_call 131; refine (newCodes_any (some ⟨nb + 1, 0, none⟩) 288 288 fixL (by unfold Hid; exact fixL_len) (some ⟨nb + 2, 0, none⟩) 32 32 fixD (by unfold Hid; exact fixD_len) wi.drew (HZA.out.bw ((Bw.refl wi).drewN 1)) (HZD.out.bw ((Bw.refl wi).drewN 1))).mono ?_; rintro e w7 ⟨hb7, hx7⟩; obtain ⟨tl, td, rfl, hT1, hT2⟩ := newC_fix hx7; have HB8 := hid (HB6.out.trans (((Bw.refl wi).drewN 1).trans hb7)); have HI8 := hid (HI.out.bw HB8.out); have HT1 := hid hT1; have HT2 := hid hT2; have HB7 := hid hb7; have f3 : w7.frozen? ⟨fb, 3, none⟩ = false := HI8.out.has.frozen 3; have f4 : w7.frozen? ⟨fb, 4, none⟩ = false := HI8.out.has.frozen 4; have g3 : w7.cell? ⟨fb, 3, none⟩ = some (.pointer none) := HI8.out.has.cell 3; have g4 : w7.cell? ⟨fb, 4, none⟩ = some (.pointer none) := HI8.out.has.cell 4; clear hT1 hT2 hb7 hx7))
          have hBz : B ≤ wi.drew.heap.size := by have h1 := HI.out.gb; have h2 := Has.lt HI.out.rd; have h3 := HB6.out.size; have h4 : wi.drew.heap.size = wi.heap.size := rfl; omega
          have HF := hid (HI8.out.fixSet (HT1.out.base hBz) (HT2.out.base hBz))
          have HN8 := hid ((((Bw.refl wi).drewN 1).trans HB7.out).has HN6.out)
          have hfn : fb ≠ nb := fun e => by have h1 := HI.out.has.lt; have h2 := HNB.out; omega
          have HFN := hid hfn
          clear hBz hfn
          have HN9 := hid ((HN8.out.far (p := ⟨fb, 3, none⟩) (fun e => HFN.out e.symm) (.pointer (some ⟨tl, 0, none⟩))).far (p := ⟨fb, 4, none⟩) (fun e => HFN.out e.symm) (.pointer (some ⟨td, 0, none⟩)))
          have n0 : ((w7.setCell ⟨fb, 3, none⟩ (.pointer (some ⟨tl, 0, none⟩))).setCell ⟨fb, 4, none⟩ (.pointer (some ⟨td, 0, none⟩))).cell? ⟨nb, 0, none⟩ = some (.pointer none) := HN9.out.cell 0
          have n1 : ((w7.setCell ⟨fb, 3, none⟩ (.pointer (some ⟨tl, 0, none⟩))).setCell ⟨fb, 4, none⟩ (.pointer (some ⟨td, 0, none⟩))).cell? ⟨nb, 1, none⟩ = some (.pointer none) := HN9.out.cell 1
          have m0 := HN9.out.frozen 0
          have m1 := HN9.out.frozen 1
          have m4 : ((w7.setCell ⟨fb, 3, none⟩ (.pointer (some ⟨tl, 0, none⟩))).setCell ⟨fb, 4, none⟩ (.pointer (some ⟨td, 0, none⟩))).cell? ⟨fb, 3, none⟩ = some (.pointer (some ⟨tl, 0, none⟩)) := HF.out.1.has.cell 3
          have m5 : ((w7.setCell ⟨fb, 3, none⟩ (.pointer (some ⟨tl, 0, none⟩))).setCell ⟨fb, 4, none⟩ (.pointer (some ⟨td, 0, none⟩))).cell? ⟨fb, 4, none⟩ = some (.pointer (some ⟨td, 0, none⟩)) := HF.out.1.has.cell 4
          have HP := hid (has_two HN9.out (.pointer (some ⟨tl, 0, none⟩)) (.pointer (some ⟨td, 0, none⟩)))
          have hBn : B ≤ nb := by have h1 := HI.out.gb; have h2 := Has.lt HI.out.rd; have h3 := HNB.out; omega
          have HK9 := hid (((KT.refl (T := [94]) (B := B) ((w7.setCell ⟨fb, 3, none⟩ (.pointer (some ⟨tl, 0, none⟩))).setCell ⟨fb, 4, none⟩ (.pointer (some ⟨td, 0, none⟩)))).setCell (p := ⟨nb, 0, none⟩) hBn (HN9.out.hot (by decide)) (.pointer (some ⟨tl, 0, none⟩))).setCell (p := ⟨nb, 1, none⟩) hBn ((HN9.out.put 0 (.pointer (some ⟨tl, 0, none⟩))).hot (by decide)) (.pointer (some ⟨td, 0, none⟩)))
          have HI9 := hid (HF.out.1.other HK9.out (by decide) (by decide) (by decide) (by decide) (by decide))
          have HKX := hid ((KT.of_bw HB8.out : KT TI B w w7).trans HF.out.2)
          have HK10 := hid (HKX.out.fresh (show w.heap.size ≤ nb by have := HNB.out; omega) (.pointer (some ⟨tl, 0, none⟩)) (.pointer (some ⟨td, 0, none⟩)))
          go_wp2
          generalize World.setCell (World.setCell ((w7.setCell ⟨fb, 3, none⟩ (.pointer (some ⟨tl, 0, none⟩))).setCell ⟨fb, 4, none⟩ (.pointer (some ⟨td, 0, none⟩))) _ _) _ _ = W9 at *
          have p0 : W9.cell? ⟨nb, 0, none⟩ = some (.pointer (some ⟨tl, 0, none⟩)) := HP.out.cell 0
          have p1 : W9.cell? ⟨nb, 1, none⟩ = some (.pointer (some ⟨td, 0, none⟩)) := HP.out.cell 1
          try simp only [Exit.inBlock, Exit.then]
          refine bodyPost_ret (by simp [results, Tryz.results108, go_sem, p0, p1]; try rfl) rfl ?_
          exact ⟨tl, td, rfl, HI9.out, HK10.out⟩
end
end Go.Proofs.YtkmbgkcpohchhaaGreatDoor
namespace Go.Proofs.YtkmbgkcpohchhaaGreatDoor
open Go.RowKit Go.Conc
set_option linter.unusedVariables false
def icl (l : List Int) : List Value := l.map fun x => .int .i64 x
theorem icl_snoc (l : List Int) (x : Int) : icl (l ++ [x]) = icl l ++ [.int .i64 x] := by simp [icl]
theorem icl_get (l : List Int) (i : Nat) (h : i < l.length) : (icl l)[i]? = some (.int .i64 l[i]) := by simp [icl, h]
theorem intInfo2 : (Tryz.prog.info? 3).map (fun i => (i.zero, i.size, i.bytes)) = some (some (.int .i64 0), 1, 8) := by kernel_rfl
theorem KT.later {T : List TypeId} {B : Nat} {a b c : World} (h : KT T B a b) (k : Below a.heap.size b c) : KT T B a c :=
  ⟨k.os.trans h.os, k.tape.trans h.tape, k.output.trans h.output, Nat.le_trans h.size k.size, fun i hi hn => (k.block i hi).trans (h.block i hi hn)⟩
def SeqC (B : Nat) (w : World) (fb g : Nat) (s : ByteArray) (lim : Nat) (last : Bool) (n d : Nat) (t : List Int) (k : Nat) (out : List UInt8) (pl pd : Option Addr) (e : Ending) (w' : World) : Prop :=
  KT TI B w w' ∧ ((∃ er, Leads s lim (.go ⟨.seq last n d t [], k, out⟩) (.bad er) ∧ e = pan er) ∨
    (∃ (l : List Int) (k' ab cap : Nat) (v : Value), Leads s lim (.go ⟨.seq last n d t [], k, out⟩) (.go ⟨.seq last n d t l, k', out⟩) ∧ l.length = n + d ∧ (∀ x ∈ l, 0 ≤ x ∧ x ≤ 15) ∧
      e = .returned (.slice (some ⟨ab, 0, none⟩) (n + d) cap) ∧ n + d ≤ cap ∧ w'.ownsRow w.heap.size 3 1 (.slice (some ⟨ab, 0, none⟩) (n + d : Nat) cap) (n + d) (icl l) ∧ Inf B w' fb g s k' out lim v pl pd))
def SeqIn (B : Nat) (w : World) (fb g : Nat) (s : ByteArray) (lim : Nat) (last : Bool) (n d : Nat) (t : List Int) (k : Nat) (out : List UInt8) (pl pd : Option Addr) (y : Value) (wr : World) : Prop :=
  ∃ (l : List Int) (n1 k1 : Nat) (v1 : Value), l.length = n1 ∧ n1 ≤ n + d ∧ (∀ x ∈ l, 0 ≤ x ∧ x ≤ 15) ∧ wr.ownsRow w.heap.size 3 1 y n1 (icl l) ∧ Inf B wr fb g s k1 out lim v1 pl pd ∧ KT TI B w wr ∧
    Leads s lim (.go ⟨.seq last n d t [], k, out⟩) (.go ⟨.seq last n d t l, k1, out⟩)
def SeqMid (B : Nat) (w w1 : World) (fb g : Nat) (s : ByteArray) (lim : Nat) (last : Bool) (n d : Nat) (t l : List Int) (k1 : Nat) (out : List UInt8) (pl pd : Option Addr) (a b : Value) (wx : World) : Prop :=
  ∃ (vv : Int) (tm k3 : Nat) (v3 : Value), a = .int .i64 vv ∧ b = .int .i64 tm ∧ 0 ≤ vv ∧ vv ≤ 15 ∧ 1 ≤ tm ∧ tm ≤ 200 ∧ Inf B wx fb g s k3 out lim v3 pl pd ∧ KT TI B w1 wx ∧
    step s lim ⟨.seq last n d t l, k1, out⟩ = stPut last n d t l vv tm k3 out
theorem seq_eq (s : ByteArray) (lim : Nat) (last : Bool) (n d : Nat) (t l : List Int) (k : Nat) (out : List UInt8) (h : l.length < n + d) : step s lim ⟨.seq last n d t l, k, out⟩ =
    sym1 s t k fun x k1 =>
      if x = 16 then (if l = [] then .bad 3 else num s k1 2 fun v k2 => stPut last n d t l (l.getD (l.length - 1) 0) (3 + v) k2 out)
      else if x = 17 then num s k1 3 fun v k2 => stPut last n d t l 0 (3 + v) k2 out
      else if x = 18 then num s k1 7 fun v k2 => stPut last n d t l 0 (11 + v) k2 out
      else stPut last n d t l x 1 k1 out := by
  rw [step_seq]; unfold stSeq; rw [if_pos h]
section
variable {B : Nat} {w : World} {fb g : Nat} {s : ByteArray} {k : Nat} {out : List UInt8} {lim : Nat} {v : Value} {pl pd : Option Addr}
set_option maxRecDepth 100000 in
set_option maxHeartbeats 4000000 in
theorem sequence_any (hs : s.size ≤ 281474976710656) (last : Bool) (t : List Int) (D tb : Nat) (hc : IsCode t) (ht19 : t.length = 19) (hT : TabOf w D tb t) (n d nd : Nat) (hnd : Hid (n + d = nd)) (hnd1 : 1 ≤ nd) (hnd9 : nd ≤ 400) (h : Inf B w fb g s k out lim v pl pd) :
    Calls Tryz.prog 133 #[.pointer (some ⟨fb, 0, none⟩), .pointer (some ⟨tb, 0, none⟩), .int .i64 nd] w (SeqC B w fb g s lim last n d t k out pl pd) := by
  obtain ⟨i0, hinf, hz0, hz1, hz2⟩ := info_parts intInfo2
  have HI := hid h
  have HT := hid hT
  clear h hT
  go_enter Tryz.func133, Tryz.ntmps133
  go_wp2_with fail
  go_loopw [7, 8, 9] (fun y a b wr => SeqIn B w fb g s lim last n d t k out pl pd y wr) (fun y _ _ _ => nd - (match y with | .slice _ m _ => m | _ => 0))
  case atStart => exact ⟨[], 0, k, v, rfl, by omega, (fun x hx => by simp at hx), World.ownsRow_nil _ _ _ _, HI.out, KT.refl _, Leads.refl _⟩
  case round =>
    rename World => wr
    obtain ⟨l1, n1, k1, v1, hl1, hn1, hr1, ho1, hi1, hk1, hL⟩ := hrel
    obtain ⟨vo, vc, rfl⟩ := own_slice ho1
    have HL1 := hid hl1
    have HR1 := hid hr1
    have HO1 := hid ho1
    have HI1 := hid hi1
    have HK1 := hid hk1
    have HL := hid hL
    clear hl1 hr1 ho1 hi1 hk1 hL
    rw [hnd.out] at hn1
    by_cases hlt : n1 < nd
    · have hlt1 : (n1 : Int) < nd := by omega
      have HX := hid (seq_eq s lim last n d t l1 k1 out (by rw [HL1.out, hnd.out]; exact hlt))
      go_wp2_with fail
      by_cases h1 : nextE t s k1 = 0
      · have HX := hid (HX.out.trans (sym1_ok h1))
        have hx9 := nextV_lt h1
        rw [ht19] at hx9
        refine (symbol_ok hs D tb t hc (HK1.out.tab HT.out (by decide) (by decide)) h1 HI1.out).mono ?_
        rintro e w2 ⟨rfl, hi2, hk2⟩
        have HI2 := hid hi2
        have HK2 := hid (HK1.out.trans hk2)
        have HO2 := hid (hk2.own HO1.out (by decide))
        clear hi2 hk2 h1
        generalize nextV t s k1 = x at *
        generalize nextK t s k1 = k2 at *
        go_upto_block 2 with fail
        go_cut [8, 9] from 10 to 57 (fun a b wx => SeqMid B w w2 fb g s lim last n d t l1 k1 out pl pd a b wx)
        case first =>
          by_cases h16 : x = 16
          · have HX := hid (HX.out.trans (if_pos h16))
            have t16 : ((x : Int) == 16) = true := by simp; omega
            by_cases h0 : n1 = 0
            · have HX := hid (HX.out.trans (if_pos (List.length_eq_zero_iff.1 (HL1.out.trans h0))))
              have t0 : decide (0 < n1) = false := decide_eq_false (by omega)
              have t1 : decide ((0 : Int) < n1) = false := decide_eq_false (by omega)
              go_wp2_with fail
              refine (demand_bad _).mono ?_
              rintro e w3 ⟨rfl, rfl⟩
              exact ⟨rfl, HK2.out, .inl ⟨_, HL.out.then HX.out, rfl⟩⟩
            · have HX := hid (HX.out.trans (if_neg (fun e => h0 (by rw [← HL1.out, e]; rfl))))
              have t0 : decide (0 < n1) = true := decide_eq_true (by omega)
              have t1 : decide ((0 : Int) < n1) = true := decide_eq_true (by omega)
              obtain ⟨ab, cap, hv⟩ := own_some HO2.out (by omega)
              obtain ⟨rfl, rfl⟩ : vo = some ⟨ab, 0, none⟩ ∧ vc = cap := by simpa using hv
              obtain ⟨q, hq⟩ : ∃ q, n1 - 1 = q := ⟨_, rfl⟩
              have hq1 : q < l1.length := by rw [HL1.out]; omega
              have hlq := HR1.out l1[q] (List.getElem_mem hq1)
              have hgd : l1.getD (l1.length - 1) 0 = l1[q] := by rw [HL1.out, hq]; simp [List.getD, hq1]
              rw [hgd] at HX
              have c0 := ownp_cell HO2.out (icl_get l1 q hq1)
              have HS := hid (fun (W : World) (h : KT TI B w2 W) => ownp_cell (h.own HO2.out (by decide)) (icl_get l1 q hq1))
              generalize l1[q] = vv at *
              have HVV := hid hlq
              have e1 : (n1 : Int) - 1 = (q : Nat) := by omega
              have b1 : (0 : Int) ≤ q := by omega
              have b2 : (q : Int) < n1 := by omega
              have b3 : (q : Int).toNat = q := rfl
              have b4 : IntKind.i64.wrap (q : Int) = (q : Int) := IntWalk.i64_in _ (by omega)
              clear hgd hv h16 hlq
              go_wp2_with fail
              refine (demand_ok _).mono ?_
              rintro e w3 ⟨rfl, rfl⟩
              go_wp2_with fail
              have p0 : w3.drew.cell? ⟨ab, q, none⟩ = some (.int .i64 vv) := c0
              have HID := hid (HI2.out.bw ((Bw.refl w3).drewN 1))
              have HKD := hid (show KT TI B w3 w3.drew from KT.of_bw ((Bw.refl w3).drewN 1))
              clear c0
              by_cases h2 : k2 + 2 ≤ 8 * s.size
              · have HX := hid (HX.out.trans (num_ok h2))
                have hbv : bv s k2 2 < 4 := bv_lt s k2 2
                have b5 : IntKind.i64.wrap (3 + ((bv s k2 2 : Nat) : Int)) = 3 + ((bv s k2 2 : Nat) : Int) := IntWalk.i64_in _ (by omega)
                go_region_held3 (fun W => W.cell? ⟨ab, q, none⟩ = some (.int .i64 vv)) (first | exact p0 | exact q0)
                  (first | (go_at_call 105; refine (number_ok hs 2 (by omega) h2 HID.out).mono ?_; rintro e w4 ⟨rfl, hi3, hk3⟩; have q0 := HS.out _ (HKD.out.trans hk3); have HI4 := hid hi3; have HK4 := hid (HKD.out.trans hk3); clear hi3 hk3))
                go_wp2_with fail
                go_meet
                case rel => exact ⟨vv, 3 + bv s k2 2, k2 + 2, v1, rfl, by simp, HVV.out.1, HVV.out.2, by omega, by omega, HI4.out, HK4.out, HX.out⟩
              · have HX := hid (HX.out.trans (num_bad h2))
                go_region_dies
                all_goals (refine (number_bad hs 2 (by omega) h2 HID.out).mono ?_; rintro e w4 ⟨rfl, hk4⟩; exact ⟨rfl, HK2.out.trans (HKD.out.trans hk4), .inl ⟨_, HL.out.then HX.out, rfl⟩⟩)
          · have HX := hid (HX.out.trans (if_neg h16))
            have t16 : ((x : Int) == 16) = false := by simp; omega
            by_cases h17 : x = 17
            · have HX := hid (HX.out.trans (if_pos h17))
              have t17 : ((x : Int) == 17) = true := by simp; omega
              go_wp2_with fail
              by_cases h2 : k2 + 3 ≤ 8 * s.size
              · have HX := hid (HX.out.trans (num_ok h2))
                have hbv : bv s k2 3 < 8 := bv_lt s k2 3
                refine (number_ok hs 3 (by omega) h2 HI2.out).mono ?_
                rintro e w3 ⟨rfl, hi3, hk3⟩
                have HI3 := hid hi3
                have HK3 := hid hk3
                clear hi3 hk3 h17
                go_wp2_with fail
                go_meet
                case rel => exact ⟨0, 3 + bv s k2 3, k2 + 3, v1, rfl, by simp, by omega, by omega, by omega, by omega, HI3.out, HK3.out, HX.out⟩
              · have HX := hid (HX.out.trans (num_bad h2))
                refine (number_bad hs 3 (by omega) h2 HI2.out).mono ?_
                rintro e w3 ⟨rfl, hk3⟩
                exact ⟨rfl, HK2.out.trans hk3, .inl ⟨_, HL.out.then HX.out, rfl⟩⟩
            · have HX := hid (HX.out.trans (if_neg h17))
              have t17 : ((x : Int) == 17) = false := by simp; omega
              by_cases h18 : x = 18
              · have HX := hid (HX.out.trans (if_pos h18))
                have t18 : ((x : Int) == 18) = true := by simp; omega
                go_wp2_with fail
                by_cases h2 : k2 + 7 ≤ 8 * s.size
                · have HX := hid (HX.out.trans (num_ok h2))
                  have hbv : bv s k2 7 < 128 := bv_lt s k2 7
                  refine (number_ok hs 7 (by omega) h2 HI2.out).mono ?_
                  rintro e w3 ⟨rfl, hi3, hk3⟩
                  have HI3 := hid hi3
                  have HK3 := hid hk3
                  clear hi3 hk3 h18
                  go_wp2_with fail
                  go_meet
                  case rel => exact ⟨0, 11 + bv s k2 7, k2 + 7, v1, rfl, by simp, by omega, by omega, by omega, by omega, HI3.out, HK3.out, HX.out⟩
                · have HX := hid (HX.out.trans (num_bad h2))
                  refine (number_bad hs 7 (by omega) h2 HI2.out).mono ?_
                  rintro e w3 ⟨rfl, hk3⟩
                  exact ⟨rfl, HK2.out.trans hk3, .inl ⟨_, HL.out.then HX.out, rfl⟩⟩
              · have HX := hid (HX.out.trans (if_neg h18))
                have t18 : ((x : Int) == 18) = false := by simp; omega
                go_wp2_with fail
                go_meet
                case rel => exact ⟨x, 1, k2, v1, rfl, rfl, by omega, by omega, by omega, by omega, HI2.out, KT.refl _, HX.out⟩
        case rest =>
          obtain ⟨vv, tm, k3, v3, rfl, rfl, hv0, hv15, htm1, htm2, hi3, hk3, hX⟩ := hcut
          have HI3 := hid hi3
          have HK3 := hid (HK2.out.trans hk3)
          have HO3 := hid (hk3.own HO2.out (by decide))
          have HX := hid hX
          clear hi3 hk3 hX
          by_cases hr : tm ≤ nd - n1
          · have HX := hid (HX.out.trans (show stPut last n d t l1 vv tm k3 out = _ from if_pos (by rw [HL1.out, hnd.out]; exact hr)))
            have t0 : decide ((tm : Int) ≤ (nd : Int) - n1) = true := decide_eq_true (by omega)
            go_wp2_with fail
            refine (demand_ok _).mono ?_
            rintro e w4 ⟨rfl, rfl⟩
            clear t0
            go_wp2_with fail
            go_loopw [7, 51] (fun y i wi => ∃ (j : Nat), j ≤ tm ∧ i = .int .i64 j ∧ wi.ownsRow w.heap.size 3 1 y (n1 + j) (icl (l1 ++ List.replicate j vv)) ∧ Inf B wi fb g s k3 out lim v3 pl pd ∧ KT TI B w wi) (fun _ i _ => tm - (intOf i).toNat)
            case atStart => exact ⟨0, Nat.zero_le _, rfl, by simpa using HO3.out, HI3.out, HK3.out⟩
            case round =>
              rename World => wi
              obtain ⟨j, hj, rfl, ho, hi, hk⟩ := hrel
              have HOI := hid ho
              have HII := hid hi
              have HKI := hid hk
              obtain ⟨uo, uc, rfl⟩ := own_slice ho
              clear ho hi hk
              by_cases hjt : j < tm
              · have hj1 : (j : Int) < tm := by omega
                obtain ⟨m, hm⟩ : ∃ m, n1 + j = m := ⟨_, rfl⟩
                have hm9 : m ≤ 400 := by omega
                have HO4 := hid (show wi.ownsRow w.heap.size 3 1 (.slice uo m uc) m (icl (l1 ++ List.replicate j vv)) by rw [← hm]; exact HOI.out)
                have HM := hid hm
                have hwz : w.heap.size ≤ wi.heap.size := HKI.out.size
                have HWZ := hid hwz
                rw [hm]
                clear hm hwz
                go_wp2_with (at_builtin; refine wpList_append_own_at _ rfl (.tmp 53) (.tmp 55) 44 rfl w.heap.size 3 i0 (.int .i64 0) 1 8 Tryz.underlying44 hinf hz0 hz1 hz2 rfl (by decide) (.slice uo m uc) m (icl (l1 ++ List.replicate j vv)) rfl (((Bw.refl wi).alloc _).own HO4.out) ⟨wi.heap.size, 0, none⟩ 1 1 [.int .i64 vv] rfl rfl (cell_one_new _ _ _) (by intro u hu; simp at hu; rw [hu]; rfl) (by unfold maxLen; omega) (by omega) (by have := HWZ.out; simp only [World.size_alloc]; omega) ?_; intro v' w5 hown5 hgrow5 _ _; obtain ⟨vo5, vc5, rfl⟩ := own_slice hown5; have HG5 := hid hgrow5; have HO5 := hid hown5; clear hown5 hgrow5)
                have HWA := hid (show Bw wi (wi.alloc (.cells #[.int .i64 vv] 3)) from (Bw.refl wi).alloc _)
                have HKA := hid (KT.of_grown (T := [3]) (B := B) (HWA.out.own HO4.out) (by have h1 := HI.out.gb; have h2 := Has.lt HI.out.rd; omega) HG5.out (by decide))
                have HI5 := hid ((HII.out.bw HWA.out).other HKA.out (by decide) (by decide) (by decide) (by decide) (by decide))
                have HK5 := hid ((HKI.out.trans (KT.of_bw HWA.out)).later (own_grownJ (HWA.out.own HO4.out) HG5.out (by have := HWZ.out; simp only [World.size_alloc]; omega)))
                refine ⟨⟨j + 1, by omega, by go_num, ?_, HI5.out, HK5.out⟩, by simp [intOf]; omega⟩
                rw [List.replicate_succ', ← List.append_assoc, icl_snoc, ← Nat.add_assoc, HM.out]
                exact HO5.out
              · obtain rfl : j = tm := by omega
                have HRR := hid (show ∀ x ∈ l1 ++ List.replicate j vv, 0 ≤ x ∧ x ≤ 15 from fun x hx => by
                  rcases List.mem_append.1 hx with h | h
                  · exact HR1.out x h
                  · rw [List.eq_of_mem_replicate h]; exact ⟨hv0, hv15⟩)
                have HLL := hid (show (l1 ++ List.replicate j vv).length = n1 + j by rw [List.length_append, List.length_replicate, HL1.out])
                have HNN := hid (show n1 + j ≤ n + d by rw [hnd.out]; omega)
                have hmeas : nd - (n1 + j) < nd - n1 := by omega
                have HME := hid hmeas
                clear hmeas
                go_wp2
                go_roundw
                case rel => exact ⟨_, _, _, _, HLL.out, HNN.out, HRR.out, HOI.out, HII.out, HKI.out, HL.out.then HX.out⟩
                case measure => exact HME.out
          · have HX := hid (HX.out.trans (show stPut last n d t l1 vv tm k3 out = _ from if_neg (by rw [HL1.out, hnd.out]; exact hr)))
            have t0 : decide ((tm : Int) ≤ (nd : Int) - n1) = false := decide_eq_false (by omega)
            go_wp2_with fail
            refine (demand_bad _).mono ?_
            rintro e w4 ⟨rfl, rfl⟩
            exact ⟨rfl, HK3.out, .inl ⟨_, HL.out.then HX.out, rfl⟩⟩
      · have HX := hid (HX.out.trans (sym1_bad h1))
        refine (symbol_bad hs D tb t hc (HK1.out.tab HT.out (by decide) (by decide)) h1 HI1.out).mono ?_
        rintro e w2 ⟨rfl, hk2⟩
        exact ⟨rfl, HK1.out.trans hk2, .inl ⟨_, HL.out.then HX.out, rfl⟩⟩
    · have hlt1 : ¬ (n1 : Int) < nd := by omega
      obtain rfl : n1 = nd := by omega
      obtain ⟨ab, cap, hv⟩ := own_some HO1.out (by omega)
      obtain ⟨rfl, rfl⟩ : vo = some ⟨ab, 0, none⟩ ∧ vc = cap := by simpa using hv
      have hcap := ownp_cap HO1.out
      clear hv
      go_wp2
      go_returns
      exact ⟨HK1.out, .inr ⟨l1, k1, ab, vc, v1, HL.out, by rw [HL1.out, hnd.out], HR1.out, by rw [hnd.out]; rfl, by rw [hnd.out]; exact hcap, by rw [hnd.out]; exact HO1.out, HI1.out⟩⟩
end
end Go.Proofs.YtkmbgkcpohchhaaGreatDoor
