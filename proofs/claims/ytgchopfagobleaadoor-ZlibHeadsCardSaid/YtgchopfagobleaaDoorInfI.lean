/- The fixed codes (contract of the method). -/
import Derived.Test.YtgchopfagobleaaDoorInfH
import Derived.Test.YtgchopfagobleaaDoorInfD
import Derived.Deep.RegionWith
namespace Go.Proofs.YtgchopfagobleaaDoor
open Go.RowKit Go.Conc
set_option linter.unusedVariables false
/-- An array whose first k cells are a row's numbers, the others 0. -/
def fA (l : List Int) (n k : Nat) : Array Value := ((List.range n).map fun i => Value.int .i64 (if i < k then l.getD i 0 else 0)).toArray
theorem fA_get (l : List Int) (n k i : Nat) (h : i < n) : (fA l n k)[i]? = some (.int .i64 (if i < k then l.getD i 0 else 0)) := by simp [fA, h]
theorem fA_put (l : List Int) (n k : Nat) (hk : k < n) : (fA l n k).setIfInBounds k (.int .i64 (l.getD k 0)) = fA l n (k + 1) := by
  apply Array.ext_getElem?
  intro i
  have hsz : (fA l n k).size = n := by simp [fA]
  rw [Array.getElem?_setIfInBounds, hsz]
  by_cases hi : i < n
  · rw [fA_get l n (k + 1) i hi]
    by_cases e : k = i
    · subst e
      rw [if_pos rfl, if_pos hk, if_pos (by omega)]
    · rw [if_neg e, fA_get l n k i hi]
      by_cases h : i < k
      · rw [if_pos h, if_pos (by omega)]
      · rw [if_neg h, if_neg (by omega)]
  · have h1 : (fA l n (k + 1))[i]? = none := Array.getElem?_eq_none (by simp [fA]; omega)
    rw [h1]
    by_cases e : k = i
    · omega
    · rw [if_neg e]; exact Array.getElem?_eq_none (by rw [hsz]; omega)
theorem fA_zs {w : World} {b : Nat} {t : TypeId} {l : List Int} {n : Nat} (h : Has w b t (fA l n n)) (hl : l.length = n) : ZsAt w (some ⟨b, 0, none⟩) l := fun i hi => by
  refine ⟨b, 0, rfl, h.lt, ?_⟩
  rw [Nat.zero_add, h.cell i, fA_get l n n i (by omega), if_pos (by omega)]
  simp [List.getD, hi]
set_option maxRecDepth 100000 in
theorem zero288 : Tryd.zeroCells99 = fA fixL 288 0 := by kernel_rfl
set_option maxRecDepth 100000 in
theorem zero32 : (#[.int .i64 0, .int .i64 0, .int .i64 0, .int .i64 0, .int .i64 0, .int .i64 0, .int .i64 0, .int .i64 0, .int .i64 0, .int .i64 0, .int .i64 0, .int .i64 0, .int .i64 0, .int .i64 0, .int .i64 0, .int .i64 0, .int .i64 0, .int .i64 0, .int .i64 0, .int .i64 0, .int .i64 0, .int .i64 0, .int .i64 0, .int .i64 0, .int .i64 0, .int .i64 0, .int .i64 0, .int .i64 0, .int .i64 0, .int .i64 0, .int .i64 0, .int .i64 0] : Array Value) = fA fixD 32 0 := by kernel_rfl
theorem Has.eq {w : World} {g : Nat} {t : TypeId} {cs cs' : Array Value} (h : Has w g t cs) (e : cs = cs') : Has w g t cs' := e ▸ h
theorem fixD_get (i : Nat) (h : i < 32) : fixD.getD i 0 = 5 := by
  have : (List.range 32).all (fun i => decide (fixD.getD i 0 = 5)) = true := by decide +kernel
  exact of_decide_eq_true (List.all_eq_true.1 this i (List.mem_range.2 h))
/-- What fixedCodes leaves. -/
def FixC (B : Nat) (w : World) (fb g : Nat) (s : ByteArray) (k : Nat) (out : List UInt8) (lim : Nat) (v : Value) (e : Ending) (w' : World) : Prop :=
  ∃ tl td : Nat, e = .returned (.agg #[.pointer (some ⟨tl, 0, none⟩), .pointer (some ⟨td, 0, none⟩)]) ∧ Inf B w' fb g s k out lim v (some ⟨tl, 0, none⟩) (some ⟨td, 0, none⟩) ∧ KT TI B w w'
theorem newC_fix {l1 l2 : List Int} {w w' : World} {e : Ending} (h : (checkE l1 ≠ 0 ∧ e = pan (checkE l1)) ∨ (checkE l1 = 0 ∧ checkE l2 ≠ 0 ∧ e = pan (checkE l2)) ∨
    (checkE l1 = 0 ∧ checkE l2 = 0 ∧ ∃ tl td : Nat, e = .returned (.agg #[.pointer (some ⟨tl, 0, none⟩), .pointer (some ⟨td, 0, none⟩)]) ∧ w.heap.size ≤ tl ∧ w.heap.size ≤ td ∧ TabOf w' w.heap.size tl l1 ∧ TabOf w' w.heap.size td l2)) (h1 : checkE l1 = 0 := by first | exact fixL_code) (h2 : checkE l2 = 0 := by first | exact fixD_code) :
    ∃ tl td : Nat, e = .returned (.agg #[.pointer (some ⟨tl, 0, none⟩), .pointer (some ⟨td, 0, none⟩)]) ∧ TabOf w' w.heap.size tl l1 ∧ TabOf w' w.heap.size td l2 := by
  rcases h with ⟨hx, _⟩ | ⟨_, hx, _⟩ | ⟨_, _, tl, td, rfl, ht1, ht2, hT1, hT2⟩
  · exact absurd h1 hx
  · exact absurd h2 hx
  · exact ⟨tl, td, rfl, hT1, hT2⟩
/-- Beside what was turned: only a block that is new. -/
theorem KT.fresh {T : List TypeId} {B nb : Nat} {a b : World} (h : KT T B a b) (hs : a.heap.size ≤ nb) (x y : Value) : KT T B a ((b.setCell ⟨nb, 0, none⟩ x).setCell ⟨nb, 1, none⟩ y) := by
  have k : ∀ {d : World} (u : Value) (o : Nat), KT T B a d → KT T B a (d.setCell ⟨nb, o, none⟩ u) := fun {d} u o hd =>
    ⟨hd.os, hd.tape, hd.output, by simpa [World.setCell] using hd.size, fun i hi hn => (Below.heap_setCell d ⟨nb, o, none⟩ u i (by show i ≠ nb; omega)).trans (hd.block i hi hn)⟩
  exact k y 1 (k x 0 h)
theorem Inf.other {B : Nat} {w w' : World} {fb g : Nat} {s : ByteArray} {k : Nat} {out : List UInt8} {lim : Nat} {v : Value} {pl pd : Option Addr} (h : Inf B w fb g s k out lim v pl pd) {T : List TypeId} (hk : KT T B w w')
    (h1 : 37 ∉ T) (h2 : 62 ∉ T) (h3 : 5 ∉ T) (h4 : 118 ∉ T) (h5 : 122 ∉ T) : Inf B w' fb g s k out lim v pl pd :=
  ⟨hk.has h.has h1, hk.has h.rd h2, hk.own h.own h3, h.fix.kt hk h4 h5, h.fb, h.gb, h.k8, h.few, h.tabs.kt hk (Nat.le_refl _)⟩
section
variable {B : Nat} {w : World} {fb g : Nat} {s : ByteArray} {k : Nat} {out : List UInt8} {lim : Nat} {v : Value} {pl pd : Option Addr}
/-- The tables are put into the inflater. -/
theorem Inf.fixSet (h : Inf B w fb g s k out lim v pl pd) {tl td : Nat} (h1 : TabOf w B tl fixL) (h2 : TabOf w B td fixD) :
    Inf B ((w.setCell ⟨fb, 3, none⟩ (.pointer (some ⟨tl, 0, none⟩))).setCell ⟨fb, 4, none⟩ (.pointer (some ⟨td, 0, none⟩))) fb g s k out lim v (some ⟨tl, 0, none⟩) (some ⟨td, 0, none⟩) ∧
      KT TI B w ((w.setCell ⟨fb, 3, none⟩ (.pointer (some ⟨tl, 0, none⟩))).setCell ⟨fb, 4, none⟩ (.pointer (some ⟨td, 0, none⟩))) := by
  have k1 : KT TI B w (w.setCell ⟨fb, 3, none⟩ (.pointer (some ⟨tl, 0, none⟩))) := (KT.refl w).setCell (p := ⟨fb, 3, none⟩) h.fb (h.has.hot (by decide)) _
  have h3 := h.has.put 3 (.pointer (some ⟨tl, 0, none⟩))
  have k2 : KT TI B w ((w.setCell ⟨fb, 3, none⟩ (.pointer (some ⟨tl, 0, none⟩))).setCell ⟨fb, 4, none⟩ (.pointer (some ⟨td, 0, none⟩))) := k1.setCell (p := ⟨fb, 4, none⟩) h.fb (h3.hot (by decide)) _
  have h4 := h3.put 4 (.pointer (some ⟨td, 0, none⟩))
  have o3 : (w.setCell ⟨fb, 3, none⟩ (.pointer (some ⟨tl, 0, none⟩))).ownsRow B 5 1 v out.length (bcs out) := own_keep h.own fun b hb => Below.heap_setCell w _ _ b fun e => own_ne_has h.own h.has (by decide) (by rw [hb, e])
  refine ⟨⟨by simpa using h4, (h.rd.far (fun e => h.ne e.symm) _).far (fun e => h.ne e.symm) _, own_keep o3 fun b hb => Below.heap_setCell _ _ _ b fun e => own_ne_has o3 h3 (by decide) (by rw [hb, e]), ?_, h.fb, h.gb, h.k8, h.few, h.tabs.kt k2 (Nat.le_refl _)⟩, k2⟩
  exact .inr ⟨tl, td, rfl, rfl, k2.tab h1 (by decide) (by decide), k2.tab h2 (by decide) (by decide)⟩
set_option maxRecDepth 100000 in
set_option maxHeartbeats 4000000 in
theorem fixed_old (tl td : Nat) (h : Inf B w fb g s k out lim v (some ⟨tl, 0, none⟩) (some ⟨td, 0, none⟩)) :
    Calls Tryd.prog 39 #[.pointer (some ⟨fb, 0, none⟩)] w (FixC B w fb g s k out lim v) := by
  have c3 : w.cell? ⟨fb, 3, none⟩ = some (.pointer (some ⟨tl, 0, none⟩)) := h.has.cell 3
  have c4 : w.cell? ⟨fb, 4, none⟩ = some (.pointer (some ⟨td, 0, none⟩)) := h.has.cell 4
  have HI := hid h
  have HW := hid (show Bw w (w.alloc (.cells #[.pointer none, .pointer none] 35)) from (Bw.refl w).alloc _)
  have HN := hid (Has.new w 35 #[.pointer none, .pointer none])
  have d3 := HW.out.cell c3
  have d4 := HW.out.cell c4
  have HX := hid (show Bw w (w.alloc (.cells #[.pointer (some ⟨tl, 0, none⟩), .pointer (some ⟨td, 0, none⟩)] 35)) from (Bw.refl w).alloc _)
  clear h c3 c4
  go_enter Tryd.func39, Tryd.ntmps39
  go_wp2
  try simp only [Exit.inBlock, Exit.then]
  refine bodyPost_ret (by simp [results, Tryd.results39, go_sem]; try rfl) rfl ?_
  exact ⟨tl, td, rfl, HI.out.bw HX.out, KT.of_bw HX.out⟩
set_option maxRecDepth 100000 in
set_option maxHeartbeats 4000000 in
theorem fixed_new (h : Inf B w fb g s k out lim v none none) :
    Calls Tryd.prog 39 #[.pointer (some ⟨fb, 0, none⟩)] w (FixC B w fb g s k out lim v) := by
  have c3 : w.cell? ⟨fb, 3, none⟩ = some (.pointer none) := h.has.cell 3
  have HI := hid h
  have HW := hid (show Bw w (w.alloc (.cells #[.pointer none, .pointer none] 35)) from (Bw.refl w).alloc _)
  have HN := hid (Has.new w 35 #[.pointer none, .pointer none])
  have hz1 : (w.alloc (.cells #[.pointer none, .pointer none] 35)).heap.size = w.heap.size + 1 := by simp
  have d3 := HW.out.cell c3
  clear c3 h
  go_enter Tryd.func39, Tryd.ntmps39
  go_wp2_with fail
  obtain ⟨nb, hnb⟩ : ∃ nb, w.heap.size = nb := ⟨_, rfl⟩
  rw [hnb] at HN hz1 ⊢
  generalize w.alloc (.cells #[.pointer none, .pointer none] 35) = W1 at *
  have HA := hid (show Has (W1.alloc (.cells Tryd.zeroCells99 99)) (nb + 1) 99 (fA fixL 288 0) from (by have := Has.new W1 99 Tryd.zeroCells99; rw [hz1] at this; exact this.eq zero288))
  have HW2 := hid ((HW.out.alloc (.cells Tryd.zeroCells99 99)))
  have HN2 := hid (HN.out.alloc (.cells Tryd.zeroCells99 99))
  have hz2 : (W1.alloc (.cells Tryd.zeroCells99 99)).heap.size = nb + 2 := by simp [hz1]
  have HZ := hid hz2
  have HNB := hid hnb
  clear hnb hz1 d3 hz2
  generalize W1.alloc (.cells Tryd.zeroCells99 99) = W2 at *
  go_loopw [4, 13] (fun a i wr => ∃ j : Nat, j ≤ 288 ∧ i = .int .i64 j ∧ Bw w wr ∧ Has wr nb 35 #[.pointer none, .pointer none] ∧ Has wr (nb + 1) 99 (fA fixL 288 j) ∧ Hid (wr.heap.size = nb + 2)) (fun _ i _ => 288 - (intOf i).toNat)
  case atStart => exact ⟨0, by omega, rfl, HW2.out, HN2.out, HA.out, HZ.out⟩
  case round =>
    rename World => wr
    obtain ⟨j, hj, rfl, hb, hn, ha, HZr⟩ := hrel
    have HB := hid hb
    have HN3 := hid hn
    have HA3 := hid ha
    clear hb hn ha
    by_cases hlt : j < 288
    · have hj1 : (j : Int) < 288 := by omega
      go_wp2_with fail
      refine (fixedLength_any j hlt _).mono ?_
      rintro e w2 ⟨rfl, rfl⟩
      have HA4 := hid (HA3.out.put j (.int .i64 (fixL.getD j 0)))
      rw [fA_put fixL 288 j hlt] at HA4
      have f0 : w2.frozen? ⟨nb + 1, j, none⟩ = false := HA3.out.frozen j
      have g0 : w2.cell? ⟨nb + 1, j, none⟩ = some (.int .i64 0) := by rw [HA3.out.cell j, fA_get _ _ _ _ hlt, if_neg (by omega)]
      have HNB2 := hid (show ∀ u, Bw w (w2.setCell ⟨nb + 1, j, none⟩ u) from fun u => Below.setCell HB.out (show w.heap.size ≤ nb + 1 by have := HNB.out; omega) u)
      have HN4 := hid (HN3.out.far (p := ⟨nb + 1, j, none⟩) (show nb ≠ nb + 1 by omega) (.int .i64 (fixL.getD j 0)))
      have HZ4 := hid (show (w2.setCell ⟨nb + 1, j, none⟩ (.int .i64 (fixL.getD j 0))).heap.size = nb + 2 by rw [← HZr.out]; simp [World.setCell])
      clear hlt
      go_wp2
      exact ⟨⟨j + 1, by omega, by go_num, HNB2.out _, HN4.out, HA4.out, HZ4.out⟩, by simp [intOf]; omega⟩
    · have HJ := hid (show j = 288 by omega)
      have hj2 : ¬ (j : Int) < 288 := by omega
      have HB5 := hid (HB.out.alloc (.cells #[.int .i64 0, .int .i64 0, .int .i64 0, .int .i64 0, .int .i64 0, .int .i64 0, .int .i64 0, .int .i64 0, .int .i64 0, .int .i64 0, .int .i64 0, .int .i64 0, .int .i64 0, .int .i64 0, .int .i64 0, .int .i64 0, .int .i64 0, .int .i64 0, .int .i64 0, .int .i64 0, .int .i64 0, .int .i64 0, .int .i64 0, .int .i64 0, .int .i64 0, .int .i64 0, .int .i64 0, .int .i64 0, .int .i64 0, .int .i64 0, .int .i64 0, .int .i64 0] 100))
      have HN5 := hid (HN3.out.alloc (.cells #[.int .i64 0, .int .i64 0, .int .i64 0, .int .i64 0, .int .i64 0, .int .i64 0, .int .i64 0, .int .i64 0, .int .i64 0, .int .i64 0, .int .i64 0, .int .i64 0, .int .i64 0, .int .i64 0, .int .i64 0, .int .i64 0, .int .i64 0, .int .i64 0, .int .i64 0, .int .i64 0, .int .i64 0, .int .i64 0, .int .i64 0, .int .i64 0, .int .i64 0, .int .i64 0, .int .i64 0, .int .i64 0, .int .i64 0, .int .i64 0, .int .i64 0, .int .i64 0] 100))
      have HA5 := hid (HA3.out.alloc (.cells #[.int .i64 0, .int .i64 0, .int .i64 0, .int .i64 0, .int .i64 0, .int .i64 0, .int .i64 0, .int .i64 0, .int .i64 0, .int .i64 0, .int .i64 0, .int .i64 0, .int .i64 0, .int .i64 0, .int .i64 0, .int .i64 0, .int .i64 0, .int .i64 0, .int .i64 0, .int .i64 0, .int .i64 0, .int .i64 0, .int .i64 0, .int .i64 0, .int .i64 0, .int .i64 0, .int .i64 0, .int .i64 0, .int .i64 0, .int .i64 0, .int .i64 0, .int .i64 0] 100))
      have HD5 := hid (show Has (wr.alloc (.cells #[.int .i64 0, .int .i64 0, .int .i64 0, .int .i64 0, .int .i64 0, .int .i64 0, .int .i64 0, .int .i64 0, .int .i64 0, .int .i64 0, .int .i64 0, .int .i64 0, .int .i64 0, .int .i64 0, .int .i64 0, .int .i64 0, .int .i64 0, .int .i64 0, .int .i64 0, .int .i64 0, .int .i64 0, .int .i64 0, .int .i64 0, .int .i64 0, .int .i64 0, .int .i64 0, .int .i64 0, .int .i64 0, .int .i64 0, .int .i64 0, .int .i64 0, .int .i64 0] 100)) (nb + 2) 100 (fA fixD 32 0) from (by have := Has.new wr 100 #[.int .i64 0, .int .i64 0, .int .i64 0, .int .i64 0, .int .i64 0, .int .i64 0, .int .i64 0, .int .i64 0, .int .i64 0, .int .i64 0, .int .i64 0, .int .i64 0, .int .i64 0, .int .i64 0, .int .i64 0, .int .i64 0, .int .i64 0, .int .i64 0, .int .i64 0, .int .i64 0, .int .i64 0, .int .i64 0, .int .i64 0, .int .i64 0, .int .i64 0, .int .i64 0, .int .i64 0, .int .i64 0, .int .i64 0, .int .i64 0, .int .i64 0, .int .i64 0]; rw [HZr.out] at this; exact this.eq zero32))
      have hzr : wr.heap.size = nb + 2 := HZr.out
      go_wp2_with fail
      have HZ5 := hid (show (wr.alloc (.cells #[.int .i64 0, .int .i64 0, .int .i64 0, .int .i64 0, .int .i64 0, .int .i64 0, .int .i64 0, .int .i64 0, .int .i64 0, .int .i64 0, .int .i64 0, .int .i64 0, .int .i64 0, .int .i64 0, .int .i64 0, .int .i64 0, .int .i64 0, .int .i64 0, .int .i64 0, .int .i64 0, .int .i64 0, .int .i64 0, .int .i64 0, .int .i64 0, .int .i64 0, .int .i64 0, .int .i64 0, .int .i64 0, .int .i64 0, .int .i64 0, .int .i64 0, .int .i64 0] 100)).heap.size = nb + 3 by simp [hzr])
      clear hzr hj2
      generalize wr.alloc (.cells #[.int .i64 0, .int .i64 0, .int .i64 0, .int .i64 0, .int .i64 0, .int .i64 0, .int .i64 0, .int .i64 0, .int .i64 0, .int .i64 0, .int .i64 0, .int .i64 0, .int .i64 0, .int .i64 0, .int .i64 0, .int .i64 0, .int .i64 0, .int .i64 0, .int .i64 0, .int .i64 0, .int .i64 0, .int .i64 0, .int .i64 0, .int .i64 0, .int .i64 0, .int .i64 0, .int .i64 0, .int .i64 0, .int .i64 0, .int .i64 0, .int .i64 0, .int .i64 0] 100) = W5 at *
      go_loopw [6, 21] (fun a i wi => ∃ m : Nat, m ≤ 32 ∧ i = .int .i64 m ∧ Bw w wi ∧ Has wi nb 35 #[.pointer none, .pointer none] ∧ Has wi (nb + 1) 99 (fA fixL 288 j) ∧ Has wi (nb + 2) 100 (fA fixD 32 m)) (fun _ i _ => 32 - (intOf i).toNat)
      case atStart => exact ⟨0, by omega, rfl, HB5.out, HN5.out, HA5.out, HD5.out⟩
      case round =>
        rename World => wi
        obtain ⟨m, hm, rfl, hb, hn, ha, hd⟩ := hrel
        have HB6 := hid hb
        have HN6 := hid hn
        have HA6 := hid ha
        have HD6 := hid hd
        clear hb hn ha hd
        by_cases hlt : m < 32
        · have hm1 : (m : Int) < 32 := by omega
          have HD7 := hid (HD6.out.put m (.int .i64 5))
          rw [← fixD_get m hlt, fA_put fixD 32 m hlt, fixD_get m hlt] at HD7
          have f0 : wi.frozen? ⟨nb + 2, m, none⟩ = false := HD6.out.frozen m
          have g0 : wi.cell? ⟨nb + 2, m, none⟩ = some (.int .i64 0) := by rw [HD6.out.cell m, fA_get _ _ _ _ hlt, if_neg (by omega)]
          have HB7 := hid (show Bw w (wi.setCell ⟨nb + 2, m, none⟩ (.int .i64 5)) from Below.setCell HB6.out (show w.heap.size ≤ nb + 2 by have := HNB.out; omega) _)
          have HN7 := hid (HN6.out.far (p := ⟨nb + 2, m, none⟩) (show nb ≠ nb + 2 by omega) (.int .i64 5))
          have HA7 := hid (HA6.out.far (p := ⟨nb + 2, m, none⟩) (show nb + 1 ≠ nb + 2 by omega) (.int .i64 5))
          clear hlt
          go_wp2
          exact ⟨⟨m + 1, by omega, by go_num, HB7.out, HN7.out, HA7.out, HD7.out⟩, by simp [intOf]; omega⟩
        · have HM := hid (show m = 32 by omega)
          have hm2 : ¬ (m : Int) < 32 := by omega
          have HZA := hid (fA_zs (HA6.out.eq (by rw [HJ.out])) fixL_len)
          have HZD := hid (fA_zs (HD6.out.eq (by rw [HM.out])) fixD_len)
          go_wp2_with fail
          go_region_with (first | (go_at_call 60; refine (newCodes_any (some ⟨nb + 1, 0, none⟩) 288 288 fixL (by unfold Hid; exact fixL_len) (some ⟨nb + 2, 0, none⟩) 32 32 fixD (by unfold Hid; exact fixD_len) wi.drew (HZA.out.bw ((Bw.refl wi).drewN 1)) (HZD.out.bw ((Bw.refl wi).drewN 1))).mono ?_; rintro e w7 ⟨hb7, hx7⟩; obtain ⟨tl, td, rfl, hT1, hT2⟩ := newC_fix hx7; have HB8 := hid (HB6.out.trans (((Bw.refl wi).drewN 1).trans hb7)); have HI8 := hid (HI.out.bw HB8.out); have HT1 := hid hT1; have HT2 := hid hT2; have HB7 := hid hb7; have f3 : w7.frozen? ⟨fb, 3, none⟩ = false := HI8.out.has.frozen 3; have f4 : w7.frozen? ⟨fb, 4, none⟩ = false := HI8.out.has.frozen 4; have g3 : w7.cell? ⟨fb, 3, none⟩ = some (.pointer none) := HI8.out.has.cell 3; have g4 : w7.cell? ⟨fb, 4, none⟩ = some (.pointer none) := HI8.out.has.cell 4; clear hT1 hT2 hb7 hx7))
          have hBz : B ≤ wi.drew.heap.size := by have h1 := HI.out.gb; have h2 := Has.lt HI.out.rd; have h3 := HB6.out.size; have h4 : wi.drew.heap.size = wi.heap.size := rfl; omega
          have HF := hid (HI8.out.fixSet (HT1.out.base hBz) (HT2.out.base hBz))
          have HN8 := hid ((((Bw.refl wi).drewN 1).trans HB7.out).has HN6.out)
          have hfn : fb ≠ nb := fun e => by have h1 := HI.out.has.lt; have h2 := HNB.out; omega
          have HFN := hid hfn
          clear hBz hfn
          have HN9 := hid ((HN8.out.far (p := ⟨fb, 3, none⟩) (fun e => HFN.out e.symm) (.pointer (some ⟨tl, 0, none⟩))).far (p := ⟨fb, 4, none⟩) (fun e => HFN.out e.symm) (.pointer (some ⟨td, 0, none⟩)))
          have n0 : ((w7.setCell ⟨fb, 3, none⟩ (.pointer (some ⟨tl, 0, none⟩))).setCell ⟨fb, 4, none⟩ (.pointer (some ⟨td, 0, none⟩))).cell? ⟨nb, 0, none⟩ = some (.pointer none) := HN9.out.cell 0
          have n1 : ((w7.setCell ⟨fb, 3, none⟩ (.pointer (some ⟨tl, 0, none⟩))).setCell ⟨fb, 4, none⟩ (.pointer (some ⟨td, 0, none⟩))).cell? ⟨nb, 1, none⟩ = some (.pointer none) := HN9.out.cell 1
          have m0 := HN9.out.frozen 0
          have m1 := HN9.out.frozen 1
          have m4 : ((w7.setCell ⟨fb, 3, none⟩ (.pointer (some ⟨tl, 0, none⟩))).setCell ⟨fb, 4, none⟩ (.pointer (some ⟨td, 0, none⟩))).cell? ⟨fb, 3, none⟩ = some (.pointer (some ⟨tl, 0, none⟩)) := HF.out.1.has.cell 3
          have m5 : ((w7.setCell ⟨fb, 3, none⟩ (.pointer (some ⟨tl, 0, none⟩))).setCell ⟨fb, 4, none⟩ (.pointer (some ⟨td, 0, none⟩))).cell? ⟨fb, 4, none⟩ = some (.pointer (some ⟨td, 0, none⟩)) := HF.out.1.has.cell 4
          have HP := hid (has_two HN9.out (.pointer (some ⟨tl, 0, none⟩)) (.pointer (some ⟨td, 0, none⟩)))
          have hBn : B ≤ nb := by have h1 := HI.out.gb; have h2 := Has.lt HI.out.rd; have h3 := HNB.out; omega
          have HK9 := hid (((KT.refl (T := [35]) (B := B) ((w7.setCell ⟨fb, 3, none⟩ (.pointer (some ⟨tl, 0, none⟩))).setCell ⟨fb, 4, none⟩ (.pointer (some ⟨td, 0, none⟩)))).setCell (p := ⟨nb, 0, none⟩) hBn (HN9.out.hot (by decide)) (.pointer (some ⟨tl, 0, none⟩))).setCell (p := ⟨nb, 1, none⟩) hBn ((HN9.out.put 0 (.pointer (some ⟨tl, 0, none⟩))).hot (by decide)) (.pointer (some ⟨td, 0, none⟩)))
          have HI9 := hid (HF.out.1.other HK9.out (by decide) (by decide) (by decide) (by decide) (by decide))
          have HKX := hid ((KT.of_bw HB8.out : KT TI B w w7).trans HF.out.2)
          have HK10 := hid (HKX.out.fresh (show w.heap.size ≤ nb by have := HNB.out; omega) (.pointer (some ⟨tl, 0, none⟩)) (.pointer (some ⟨td, 0, none⟩)))
          go_wp2
          generalize World.setCell (World.setCell ((w7.setCell ⟨fb, 3, none⟩ (.pointer (some ⟨tl, 0, none⟩))).setCell ⟨fb, 4, none⟩ (.pointer (some ⟨td, 0, none⟩))) _ _) _ _ = W9 at *
          have p0 : W9.cell? ⟨nb, 0, none⟩ = some (.pointer (some ⟨tl, 0, none⟩)) := HP.out.cell 0
          have p1 : W9.cell? ⟨nb, 1, none⟩ = some (.pointer (some ⟨td, 0, none⟩)) := HP.out.cell 1
          try simp only [Exit.inBlock, Exit.then]
          refine bodyPost_ret (by simp [results, Tryd.results39, go_sem, p0, p1]; try rfl) rfl ?_
          exact ⟨tl, td, rfl, HI9.out, HK10.out⟩
end
end Go.Proofs.YtgchopfagobleaaDoor
