/- The iterator over a fmt's numbers: what it hands to a loop's body (contract of the function). -/
import Derived.Test.YtgkgimfdbkpbdaaDoorWavV
import Derived.RangeFuncNested
import Derived.RangeFuncBound
import Derived.RangeFuncCalls
import Derived.RangeFuncLeaves
import Derived.Shelf.Abstract
import Derived.Shelf.RegionOpen
import Derived.WalkKit
import Derived.OwnWalkIn
import Derived.TacticsInMore
import Derived.LoopNIn
import Derived.LoopIn
namespace Go.Proofs.YtgkgimfdbkpbdaaDoor
open Go.RowKit Go.Conc
set_option linter.unusedVariables false
set_option linter.unusedSimpArgs false
attribute [local go_sem] Oper.semAt_some
theorem J_bw {α : Type} {J : List α → World → Prop} {B : Nat} (hJ : AbidesFrom B J) {s : List α} {w w' : World} (h : J s w) (hb : Bw w w') : J s w' :=
  hJ s w w' none h ⟨hb.os, hb.tape, hb.output, hb.size, fun i hi _ => hb.block i hi⟩ (fun r e => by cases e)
/-- All rows but one stay. -/
def KpC (nb : Nat) (A B : World) : Prop := A.heap.size ≤ B.heap.size ∧ ∀ i cs t fr, i ≠ nb → A.heap[i]? = some (.cells cs t fr) → B.heap[i]? = some (.cells cs t fr)
theorem KpC.trans {nb : Nat} {A B C : World} (h : KpC nb A B) (k : KpC nb B C) : KpC nb A C := ⟨Nat.le_trans h.1 k.1, fun i cs t fr hn hi => k.2 i cs t fr hn (h.2 i cs t fr hn hi)⟩
theorem KpC.of_bw {nb : Nat} {A B : World} (h : Bw A B) : KpC nb A B := ⟨h.size, fun i cs t fr _ hi => (h.block i (Array.getElem?_eq_some_iff.1 hi).1).trans hi⟩
theorem KpC.has {nb g : Nat} {A B : World} {t : TypeId} {cs : Array Value} (h : KpC nb A B) (k : Has A g t cs) (hg : g ≠ nb) : Has B g t cs := h.2 g cs t (0, 0) hg k
def numsL (D : ByteArray) : List (Nat × Nat) := [(0, numAt D 0 2 false), (1, numAt D 2 2 false), (2, numAt D 4 4 false), (3, numAt D 8 4 false), (4, numAt D 12 2 false), (5, numAt D 14 2 false)]
def numV (x : Nat × Nat) : Array Value := #[.int .i64 (x.1 : Nat), .int .i64 (x.2 : Nat)]
theorem uint2_any (s : ByteArray) (hs : s.size ≤ lim) (p : Nat) (h : p + 2 ≤ s.size) (b : Nat) (hb : b ≤ 281474976710656) (w : World) :
    Calls Tryd.prog 43 #[.agg #[.int .i64 b, .string s], .int .i64 p, .int .i64 2, .bool false] w fun e w' => e = .returned (.tuple #[.int .u64 (numAt s p 2 false), .int .i64 0]) ∧ Bw w w' := by
  have h0 := uint_in (s := s) (p := p) w2 h
  have := uint_any (b : Int) (by omega) (by omega) s hs (p : Nat) (2 : Nat) false w
  rw [h0, uintV_ok h0] at this
  exact this
set_option maxRecDepth 100000 in
set_option maxHeartbeats 8000000 in
theorem num1_some (nb m l gs : Nat) (hm : 1 ≤ m) (D : ByteArray) (hD : D.size = 16) (B : Nat) (J Jx : List (Nat × Nat) → World → Prop) (hJ : AbidesFrom B J) (W : World) (hs : W.cell? ⟨gs, 0, none⟩ = some (.string D)) (hw : WidAt W) (hnb : nb < W.heap.size)
    (hY : ∀ pre x W1, J pre W1 → pre.length < 6 → YieldAt Fence.wide (m - 1) Tryd.prog l (numV x) W1 fun e W' => (e = .returned (.bool true) ∧ J (pre ++ [x]) W' ∧ KpC nb W1 W') ∨ (e = .returned (.bool false) ∧ Jx (pre ++ [x]) W'))
    (h0 : J [] W) :
    CallsIn Fence.wide m Tryd.prog 70 #[.func (.yield l) #[] #[], .pointer (some ⟨gs, 0, none⟩)] W fun e W' => (∃ v, e = .returned v) ∧ ((∃ ys, ys = numsL D ∧ J ys W') ∨ (∃ pre, Jx pre W')) := by
  have HJ := hid (fun W' (h : Bw W W') => J_bw hJ h0 h)
  have HJJ := hid (fun pre (A B' : World) (h : J pre A) (hb : Bw A B') => J_bw hJ h hb)
  have HY := hid hY
  have HOF := hid (fun W => of_any D W)
  have HWD := hid hw
  have HNB := hid hnb
  have HU2 := hid (fun p (hp : p + 2 ≤ 16) W => uint2_any D (by rw [hD]; decide) p (by omega) 0 (by omega) W)
  have HU4 := hid (fun p (hp : p + 4 ≤ 16) W => uint4_any D (by rw [hD]; decide) p (by omega) 0 (by omega) W)
  have HNL := hid (fun p d => num_lt D p d false)
  clear hJ h0 hY hw hnb
  refine callsIn_of_wp Tryd.func70 rfl trivial ?_
  simp only [Tryd.ntmps70, List.size_toArray, List.length_cons, List.length_nil, Nat.reduceAdd, Nat.reduceSub, Array.replicate_succ, Array.replicate_zero, List.push_toArray, List.append_toArray, List.nil_append, List.cons_append]
  refine wpIn_wide.2 ?_
  go_wp2_with fail
  refine (HOF.out _).mono ?_
  rintro e w1 ⟨rfl, hb1⟩
  have HB2 := hid (hb1.alloc (.cells #[.int .i64 0, .string D] 45))
  have HX2 := hid (Has.new w1 45 #[.int .i64 0, .string D])
  obtain ⟨gw, hgw⟩ : ∃ gw, w1.heap.size = gw := ⟨_, rfl⟩
  have HGN := hid (show gw ≠ nb by have := HNB.out; have := hb1.size; omega)
  rw [hgw] at HX2
  clear hb1
  go_upto_region 1 with fail
  generalize w1.alloc (.cells #[.int .i64 0, .string D] 45) = w2 at *
  clear hgw
  obtain ⟨m0, m1, m2, m3, m4, m5⟩ := (HWD.out.bw HB2.out).six
  go_wp2
  clear m0 m1 m2 m3 m4 m5
  refine (wpIn_wide (n := m)).1 ?_
  have HJ2 := hid (HJ.out _ HB2.out)
  have HLO := hid (show w2.heap.size ≤ w2.heap.size from Nat.le_refl _)
  gi_loopw [4, 12] (fun vat vi wr => ∃ j : Nat, j ≤ 6 ∧ vat = .int .i64 ([0, 2, 4, 8, 12, 14, 16].getD j 0) ∧ vi = .int .i64 j ∧ Hid (J ((numsL D).take j) wr) ∧ KpC nb w2 wr) (fun _ vi _ => 6 - (intOf vi).toNat)
  case atStart => exact ⟨0, by decide, rfl, rfl, hid HJ2.out, KpC.of_bw (Bw.refl _)⟩
  case round =>
    rename World => wr
    obtain ⟨j, hj, rfl, rfl, HJi, hki⟩ := hrel
    have HKI := hid hki
    have HX := hid (hki.has HX2.out HGN.out)
    have x0 := HX.out.cell 0
    have x1 := HX.out.cell 1
    simp at x0 x1
    clear hki
    have hcase : j = 0 ∨ j = 1 ∨ j = 2 ∨ j = 3 ∨ j = 4 ∨ j = 5 ∨ j = 6 := by omega
    rcases hcase with rfl | rfl | rfl | rfl | rfl | rfl | rfl
    · have hix : (Instr.index 86 (.agg #[.int .i64 2, .int .i64 2, .int .i64 4, .int .i64 4, .int .i64 2, .int .i64 2]) (.int .i64 0)).run Tryd.prog wr = .ok (.int .i64 2) wr := index_arr [2, 2, 4, 4, 2, 2] rfl 0 (by decide) wr
      have hvl := HNL.out 0 2
      have HUU := hid (fun W => HU2.out 0 (by decide) W)
      obtain ⟨v, hv⟩ : ∃ v, numAt D 0 2 false = v := ⟨_, rfl⟩
      have HUV : Hid (∀ W, Calls Tryd.prog 43 #[.agg #[.int .i64 0, .string D], .int .i64 0, .int .i64 2, .bool false] W fun e w' => e = .returned (.tuple #[.int .u64 (v : Nat), .int .i64 0]) ∧ Bw W w') := hid (fun W => by rw [← hv]; exact HUU.out W)
      have HTK := hid (show (numsL D).take 1 = (numsL D).take 0 ++ [(0, v)] by rw [← hv]; rfl)
      have hv9 : v < 4294967296 := by rw [← hv]; exact Nat.lt_of_lt_of_le hvl (by decide)
      clear hv HUU hvl
      have hwv : IntKind.i64.wrap (v : Int) = v := IntWalk.i64_in _ (by omega)
      gi_wp2_with fail
      clear hix
      refine ⟨trivial, (callsIn_wide.2 (HUV.out _)).mono ?_⟩
      rintro e w4 ⟨rfl, hb4⟩
      have HK4 := hid (HKI.out.trans (KpC.of_bw hb4))
      have HJ4 := hid (HJJ.out _ _ _ HJi.out hb4)
      clear hb4 x0 x1
      have HYY : YieldAt Fence.wide (m - 1) Tryd.prog l #[.int .i64 0, .int .i64 v] w4 _ := HY.out _ (0, v) _ HJ4.out (by simp [numsL])
      obtain ⟨fn, tmps, assign, body, hy, hR2⟩ := HYY
      gi_wp2
      refine hR2.mono ?_
      rintro e W5 (⟨rfl, hJ5, hk5⟩ | ⟨rfl, hJx5⟩)
      · have HJ5 := hid hJ5
        have HK5 := hid (HK4.out.trans hk5)
        clear hJ5 hk5 hy
        gi_wp2
        exact ⟨⟨1, by decide, by go_num, by go_num, hid (by rw [HTK.out]; exact HJ5.out), HK5.out⟩, by simp [intOf]⟩
      · clear hy
        gi_wp2
        refine bodyPost_ret (results_none rfl _ _ _) rfl ?_
        exact ⟨⟨_, rfl⟩, .inr ⟨_, hJx5⟩⟩
    · have hix : (Instr.index 86 (.agg #[.int .i64 2, .int .i64 2, .int .i64 4, .int .i64 4, .int .i64 2, .int .i64 2]) (.int .i64 1)).run Tryd.prog wr = .ok (.int .i64 2) wr := index_arr [2, 2, 4, 4, 2, 2] rfl 1 (by decide) wr
      have hvl := HNL.out 2 2
      have HUU := hid (fun W => HU2.out 2 (by decide) W)
      obtain ⟨v, hv⟩ : ∃ v, numAt D 2 2 false = v := ⟨_, rfl⟩
      have HUV : Hid (∀ W, Calls Tryd.prog 43 #[.agg #[.int .i64 0, .string D], .int .i64 2, .int .i64 2, .bool false] W fun e w' => e = .returned (.tuple #[.int .u64 (v : Nat), .int .i64 0]) ∧ Bw W w') := hid (fun W => by rw [← hv]; exact HUU.out W)
      have HTK := hid (show (numsL D).take 2 = (numsL D).take 1 ++ [(1, v)] by rw [← hv]; rfl)
      have hv9 : v < 4294967296 := by rw [← hv]; exact Nat.lt_of_lt_of_le hvl (by decide)
      clear hv HUU hvl
      have hwv : IntKind.i64.wrap (v : Int) = v := IntWalk.i64_in _ (by omega)
      gi_wp2_with fail
      clear hix
      refine ⟨trivial, (callsIn_wide.2 (HUV.out _)).mono ?_⟩
      rintro e w4 ⟨rfl, hb4⟩
      have HK4 := hid (HKI.out.trans (KpC.of_bw hb4))
      have HJ4 := hid (HJJ.out _ _ _ HJi.out hb4)
      clear hb4 x0 x1
      have HYY : YieldAt Fence.wide (m - 1) Tryd.prog l #[.int .i64 1, .int .i64 v] w4 _ := HY.out _ (1, v) _ HJ4.out (by simp [numsL])
      obtain ⟨fn, tmps, assign, body, hy, hR2⟩ := HYY
      gi_wp2
      refine hR2.mono ?_
      rintro e W5 (⟨rfl, hJ5, hk5⟩ | ⟨rfl, hJx5⟩)
      · have HJ5 := hid hJ5
        have HK5 := hid (HK4.out.trans hk5)
        clear hJ5 hk5 hy
        gi_wp2
        exact ⟨⟨2, by decide, by go_num, by go_num, hid (by rw [HTK.out]; exact HJ5.out), HK5.out⟩, by simp [intOf]⟩
      · clear hy
        gi_wp2
        refine bodyPost_ret (results_none rfl _ _ _) rfl ?_
        exact ⟨⟨_, rfl⟩, .inr ⟨_, hJx5⟩⟩
    · have hix : (Instr.index 86 (.agg #[.int .i64 2, .int .i64 2, .int .i64 4, .int .i64 4, .int .i64 2, .int .i64 2]) (.int .i64 2)).run Tryd.prog wr = .ok (.int .i64 4) wr := index_arr [2, 2, 4, 4, 2, 2] rfl 2 (by decide) wr
      have hvl := HNL.out 4 4
      have HUU := hid (fun W => HU4.out 4 (by decide) W)
      obtain ⟨v, hv⟩ : ∃ v, numAt D 4 4 false = v := ⟨_, rfl⟩
      have HUV : Hid (∀ W, Calls Tryd.prog 43 #[.agg #[.int .i64 0, .string D], .int .i64 4, .int .i64 4, .bool false] W fun e w' => e = .returned (.tuple #[.int .u64 (v : Nat), .int .i64 0]) ∧ Bw W w') := hid (fun W => by rw [← hv]; exact HUU.out W)
      have HTK := hid (show (numsL D).take 3 = (numsL D).take 2 ++ [(2, v)] by rw [← hv]; rfl)
      have hv9 : v < 4294967296 := by rw [← hv]; exact Nat.lt_of_lt_of_le hvl (by decide)
      clear hv HUU hvl
      have hwv : IntKind.i64.wrap (v : Int) = v := IntWalk.i64_in _ (by omega)
      gi_wp2_with fail
      clear hix
      refine ⟨trivial, (callsIn_wide.2 (HUV.out _)).mono ?_⟩
      rintro e w4 ⟨rfl, hb4⟩
      have HK4 := hid (HKI.out.trans (KpC.of_bw hb4))
      have HJ4 := hid (HJJ.out _ _ _ HJi.out hb4)
      clear hb4 x0 x1
      have HYY : YieldAt Fence.wide (m - 1) Tryd.prog l #[.int .i64 2, .int .i64 v] w4 _ := HY.out _ (2, v) _ HJ4.out (by simp [numsL])
      obtain ⟨fn, tmps, assign, body, hy, hR2⟩ := HYY
      gi_wp2
      refine hR2.mono ?_
      rintro e W5 (⟨rfl, hJ5, hk5⟩ | ⟨rfl, hJx5⟩)
      · have HJ5 := hid hJ5
        have HK5 := hid (HK4.out.trans hk5)
        clear hJ5 hk5 hy
        gi_wp2
        exact ⟨⟨3, by decide, by go_num, by go_num, hid (by rw [HTK.out]; exact HJ5.out), HK5.out⟩, by simp [intOf]⟩
      · clear hy
        gi_wp2
        refine bodyPost_ret (results_none rfl _ _ _) rfl ?_
        exact ⟨⟨_, rfl⟩, .inr ⟨_, hJx5⟩⟩
    · have hix : (Instr.index 86 (.agg #[.int .i64 2, .int .i64 2, .int .i64 4, .int .i64 4, .int .i64 2, .int .i64 2]) (.int .i64 3)).run Tryd.prog wr = .ok (.int .i64 4) wr := index_arr [2, 2, 4, 4, 2, 2] rfl 3 (by decide) wr
      have hvl := HNL.out 8 4
      have HUU := hid (fun W => HU4.out 8 (by decide) W)
      obtain ⟨v, hv⟩ : ∃ v, numAt D 8 4 false = v := ⟨_, rfl⟩
      have HUV : Hid (∀ W, Calls Tryd.prog 43 #[.agg #[.int .i64 0, .string D], .int .i64 8, .int .i64 4, .bool false] W fun e w' => e = .returned (.tuple #[.int .u64 (v : Nat), .int .i64 0]) ∧ Bw W w') := hid (fun W => by rw [← hv]; exact HUU.out W)
      have HTK := hid (show (numsL D).take 4 = (numsL D).take 3 ++ [(3, v)] by rw [← hv]; rfl)
      have hv9 : v < 4294967296 := by rw [← hv]; exact Nat.lt_of_lt_of_le hvl (by decide)
      clear hv HUU hvl
      have hwv : IntKind.i64.wrap (v : Int) = v := IntWalk.i64_in _ (by omega)
      gi_wp2_with fail
      clear hix
      refine ⟨trivial, (callsIn_wide.2 (HUV.out _)).mono ?_⟩
      rintro e w4 ⟨rfl, hb4⟩
      have HK4 := hid (HKI.out.trans (KpC.of_bw hb4))
      have HJ4 := hid (HJJ.out _ _ _ HJi.out hb4)
      clear hb4 x0 x1
      have HYY : YieldAt Fence.wide (m - 1) Tryd.prog l #[.int .i64 3, .int .i64 v] w4 _ := HY.out _ (3, v) _ HJ4.out (by simp [numsL])
      obtain ⟨fn, tmps, assign, body, hy, hR2⟩ := HYY
      gi_wp2
      refine hR2.mono ?_
      rintro e W5 (⟨rfl, hJ5, hk5⟩ | ⟨rfl, hJx5⟩)
      · have HJ5 := hid hJ5
        have HK5 := hid (HK4.out.trans hk5)
        clear hJ5 hk5 hy
        gi_wp2
        exact ⟨⟨4, by decide, by go_num, by go_num, hid (by rw [HTK.out]; exact HJ5.out), HK5.out⟩, by simp [intOf]⟩
      · clear hy
        gi_wp2
        refine bodyPost_ret (results_none rfl _ _ _) rfl ?_
        exact ⟨⟨_, rfl⟩, .inr ⟨_, hJx5⟩⟩
    · have hix : (Instr.index 86 (.agg #[.int .i64 2, .int .i64 2, .int .i64 4, .int .i64 4, .int .i64 2, .int .i64 2]) (.int .i64 4)).run Tryd.prog wr = .ok (.int .i64 2) wr := index_arr [2, 2, 4, 4, 2, 2] rfl 4 (by decide) wr
      have hvl := HNL.out 12 2
      have HUU := hid (fun W => HU2.out 12 (by decide) W)
      obtain ⟨v, hv⟩ : ∃ v, numAt D 12 2 false = v := ⟨_, rfl⟩
      have HUV : Hid (∀ W, Calls Tryd.prog 43 #[.agg #[.int .i64 0, .string D], .int .i64 12, .int .i64 2, .bool false] W fun e w' => e = .returned (.tuple #[.int .u64 (v : Nat), .int .i64 0]) ∧ Bw W w') := hid (fun W => by rw [← hv]; exact HUU.out W)
      have HTK := hid (show (numsL D).take 5 = (numsL D).take 4 ++ [(4, v)] by rw [← hv]; rfl)
      have hv9 : v < 4294967296 := by rw [← hv]; exact Nat.lt_of_lt_of_le hvl (by decide)
      clear hv HUU hvl
      have hwv : IntKind.i64.wrap (v : Int) = v := IntWalk.i64_in _ (by omega)
      gi_wp2_with fail
      clear hix
      refine ⟨trivial, (callsIn_wide.2 (HUV.out _)).mono ?_⟩
      rintro e w4 ⟨rfl, hb4⟩
      have HK4 := hid (HKI.out.trans (KpC.of_bw hb4))
      have HJ4 := hid (HJJ.out _ _ _ HJi.out hb4)
      clear hb4 x0 x1
      have HYY : YieldAt Fence.wide (m - 1) Tryd.prog l #[.int .i64 4, .int .i64 v] w4 _ := HY.out _ (4, v) _ HJ4.out (by simp [numsL])
      obtain ⟨fn, tmps, assign, body, hy, hR2⟩ := HYY
      gi_wp2
      refine hR2.mono ?_
      rintro e W5 (⟨rfl, hJ5, hk5⟩ | ⟨rfl, hJx5⟩)
      · have HJ5 := hid hJ5
        have HK5 := hid (HK4.out.trans hk5)
        clear hJ5 hk5 hy
        gi_wp2
        exact ⟨⟨5, by decide, by go_num, by go_num, hid (by rw [HTK.out]; exact HJ5.out), HK5.out⟩, by simp [intOf]⟩
      · clear hy
        gi_wp2
        refine bodyPost_ret (results_none rfl _ _ _) rfl ?_
        exact ⟨⟨_, rfl⟩, .inr ⟨_, hJx5⟩⟩
    · have hix : (Instr.index 86 (.agg #[.int .i64 2, .int .i64 2, .int .i64 4, .int .i64 4, .int .i64 2, .int .i64 2]) (.int .i64 5)).run Tryd.prog wr = .ok (.int .i64 2) wr := index_arr [2, 2, 4, 4, 2, 2] rfl 5 (by decide) wr
      have hvl := HNL.out 14 2
      have HUU := hid (fun W => HU2.out 14 (by decide) W)
      obtain ⟨v, hv⟩ : ∃ v, numAt D 14 2 false = v := ⟨_, rfl⟩
      have HUV : Hid (∀ W, Calls Tryd.prog 43 #[.agg #[.int .i64 0, .string D], .int .i64 14, .int .i64 2, .bool false] W fun e w' => e = .returned (.tuple #[.int .u64 (v : Nat), .int .i64 0]) ∧ Bw W w') := hid (fun W => by rw [← hv]; exact HUU.out W)
      have HTK := hid (show (numsL D).take 6 = (numsL D).take 5 ++ [(5, v)] by rw [← hv]; rfl)
      have hv9 : v < 4294967296 := by rw [← hv]; exact Nat.lt_of_lt_of_le hvl (by decide)
      clear hv HUU hvl
      have hwv : IntKind.i64.wrap (v : Int) = v := IntWalk.i64_in _ (by omega)
      gi_wp2_with fail
      clear hix
      refine ⟨trivial, (callsIn_wide.2 (HUV.out _)).mono ?_⟩
      rintro e w4 ⟨rfl, hb4⟩
      have HK4 := hid (HKI.out.trans (KpC.of_bw hb4))
      have HJ4 := hid (HJJ.out _ _ _ HJi.out hb4)
      clear hb4 x0 x1
      have HYY : YieldAt Fence.wide (m - 1) Tryd.prog l #[.int .i64 5, .int .i64 v] w4 _ := HY.out _ (5, v) _ HJ4.out (by simp [numsL])
      obtain ⟨fn, tmps, assign, body, hy, hR2⟩ := HYY
      gi_wp2
      refine hR2.mono ?_
      rintro e W5 (⟨rfl, hJ5, hk5⟩ | ⟨rfl, hJx5⟩)
      · have HJ5 := hid hJ5
        have HK5 := hid (HK4.out.trans hk5)
        clear hJ5 hk5 hy
        gi_wp2
        exact ⟨⟨6, by decide, by go_num, by go_num, hid (by rw [HTK.out]; exact HJ5.out), HK5.out⟩, by simp [intOf]⟩
      · clear hy
        gi_wp2
        refine bodyPost_ret (results_none rfl _ _ _) rfl ?_
        exact ⟨⟨_, rfl⟩, .inr ⟨_, hJx5⟩⟩
    · have HALL := hid (show J (numsL D) wr from HJi.out)
      gi_wp2
      go_end0
      exact ⟨⟨_, rfl⟩, .inl ⟨_, rfl, HALL.out⟩⟩
end Go.Proofs.YtgkgimfdbkpbdaaDoor
