import Derived.Test.YtkmbgkcpohchhaaGreatDoorGBase
import Derived.DeepKeys
namespace Go.Proofs.YtkmbgkcpohchhaaGreatDoor
open Go.RowKit
set_option linter.unusedVariables false
set_option maxRecDepth 100000 in
set_option maxHeartbeats 4000000 in
theorem count_good (a : Option Addr) (len cap : Nat) (hlen : len ≤ 320) (l : List Int) (hll : Hid (l.length = len)) (hall : ∀ i (h : i < l.length), i < len → lenB l[i] = true) (w : World) (hst : ZsAt w a l) :
    Calls Tryz.prog 116 #[.slice a len cap] w fun e w' => e = .returned (.tuple #[.agg #[.int .i64 (tal l 0 : Nat), .int .i64 (tal l 1 : Nat), .int .i64 (tal l 2 : Nat), .int .i64 (tal l 3 : Nat), .int .i64 (tal l 4 : Nat), .int .i64 (tal l 5 : Nat), .int .i64 (tal l 6 : Nat), .int .i64 (tal l 7 : Nat), .int .i64 (tal l 8 : Nat), .int .i64 (tal l 9 : Nat), .int .i64 (tal l 10 : Nat), .int .i64 (tal l 11 : Nat), .int .i64 (tal l 12 : Nat), .int .i64 (tal l 13 : Nat), .int .i64 (tal l 14 : Nat), .int .i64 (tal l 15 : Nat)], .bool true]) ∧ Bw w w' := by
  have HALL := hid hall
  clear hall
  have hi : ¬ (320 : Int) < len := by omega
  have hx1 : Has (w.alloc (.cells #[.int .i64 0, .int .i64 0, .int .i64 0, .int .i64 0, .int .i64 0, .int .i64 0, .int .i64 0, .int .i64 0, .int .i64 0, .int .i64 0, .int .i64 0, .int .i64 0, .int .i64 0, .int .i64 0, .int .i64 0, .int .i64 0] 170)) w.heap.size 170 #[.int .i64 0, .int .i64 0, .int .i64 0, .int .i64 0, .int .i64 0, .int .i64 0, .int .i64 0, .int .i64 0, .int .i64 0, .int .i64 0, .int .i64 0, .int .i64 0, .int .i64 0, .int .i64 0, .int .i64 0, .int .i64 0] := Has.new w _ _
  have hx2 : Has ((w.alloc (.cells #[.int .i64 0, .int .i64 0, .int .i64 0, .int .i64 0, .int .i64 0, .int .i64 0, .int .i64 0, .int .i64 0, .int .i64 0, .int .i64 0, .int .i64 0, .int .i64 0, .int .i64 0, .int .i64 0, .int .i64 0, .int .i64 0] 170)).alloc (.cells #[.int .i64 0, .int .i64 0, .int .i64 0, .int .i64 0, .int .i64 0, .int .i64 0, .int .i64 0, .int .i64 0, .int .i64 0, .int .i64 0, .int .i64 0, .int .i64 0, .int .i64 0, .int .i64 0, .int .i64 0, .int .i64 0] 170)) (w.heap.size + 1) 170 #[.int .i64 0, .int .i64 0, .int .i64 0, .int .i64 0, .int .i64 0, .int .i64 0, .int .i64 0, .int .i64 0, .int .i64 0, .int .i64 0, .int .i64 0, .int .i64 0, .int .i64 0, .int .i64 0, .int .i64 0, .int .i64 0] := by
    have h := Has.new (w.alloc (.cells #[.int .i64 0, .int .i64 0, .int .i64 0, .int .i64 0, .int .i64 0, .int .i64 0, .int .i64 0, .int .i64 0, .int .i64 0, .int .i64 0, .int .i64 0, .int .i64 0, .int .i64 0, .int .i64 0, .int .i64 0, .int .i64 0] 170)) 170 #[.int .i64 0, .int .i64 0, .int .i64 0, .int .i64 0, .int .i64 0, .int .i64 0, .int .i64 0, .int .i64 0, .int .i64 0, .int .i64 0, .int .i64 0, .int .i64 0, .int .i64 0, .int .i64 0, .int .i64 0, .int .i64 0]
    simpa using h
  have HX2 := hid hx2
  have HXR := hid (hx1.alloc (.cells #[.int .i64 0, .int .i64 0, .int .i64 0, .int .i64 0, .int .i64 0, .int .i64 0, .int .i64 0, .int .i64 0, .int .i64 0, .int .i64 0, .int .i64 0, .int .i64 0, .int .i64 0, .int .i64 0, .int .i64 0, .int .i64 0] 170))
  have HW2 := hid (((Bw.refl w).alloc (.cells #[.int .i64 0, .int .i64 0, .int .i64 0, .int .i64 0, .int .i64 0, .int .i64 0, .int .i64 0, .int .i64 0, .int .i64 0, .int .i64 0, .int .i64 0, .int .i64 0, .int .i64 0, .int .i64 0, .int .i64 0, .int .i64 0] 170)).alloc (.cells #[.int .i64 0, .int .i64 0, .int .i64 0, .int .i64 0, .int .i64 0, .int .i64 0, .int .i64 0, .int .i64 0, .int .i64 0, .int .i64 0, .int .i64 0, .int .i64 0, .int .i64 0, .int .i64 0, .int .i64 0, .int .i64 0] 170))
  have HST := hid hst
  clear hx1 hx2 hst
  go_enter Tryz.func116, Tryz.ntmps116
  go_wp2_with fail
  obtain ⟨cb, hcb⟩ : ∃ cb, w.heap.size + 1 = cb := ⟨_, rfl⟩
  rw [hcb] at HX2 ⊢
  have HCB := hid hcb
  clear hcb
  generalize (w.alloc (.cells #[.int .i64 0, .int .i64 0, .int .i64 0, .int .i64 0, .int .i64 0, .int .i64 0, .int .i64 0, .int .i64 0, .int .i64 0, .int .i64 0, .int .i64 0, .int .i64 0, .int .i64 0, .int .i64 0, .int .i64 0, .int .i64 0] 170)).alloc (.cells #[.int .i64 0, .int .i64 0, .int .i64 0, .int .i64 0, .int .i64 0, .int .i64 0, .int .i64 0, .int .i64 0, .int .i64 0, .int .i64 0, .int .i64 0, .int .i64 0, .int .i64 0, .int .i64 0, .int .i64 0, .int .i64 0] 170) = W2 at *
  go_loopw [13] (fun i wr => ∃ k : Nat, k ≤ len ∧ i = .int .i64 k ∧ Has wr w.heap.size 170 #[.int .i64 0, .int .i64 0, .int .i64 0, .int .i64 0, .int .i64 0, .int .i64 0, .int .i64 0, .int .i64 0, .int .i64 0, .int .i64 0, .int .i64 0, .int .i64 0, .int .i64 0, .int .i64 0, .int .i64 0, .int .i64 0] ∧ Has wr cb 170 (talArr (l.take k)) ∧ Bw w wr) (fun i _ => len - (intOf i).toNat)
  case atStart => exact ⟨0, Nat.zero_le _, rfl, HXR.out, by rw [List.take_zero, talArr_nil]; exact HX2.out, HW2.out⟩
  case round =>
    obtain ⟨k, hk, rfl, hres, hh, hbw⟩ := hrel
    have HRES := hid hres
    have HH := hid hh
    have HBW := hid hbw
    by_cases hlt : k < len
    · have hlti : (k : Int) < len := by omega
      have hkl : k < l.length := by rw [hll.out]; omega
      have hx := HALL.out k hkl (by omega)
      obtain ⟨b, off, rfl, hbl, q0⟩ := HST.out k hkl
      have hts : l.take (k + 1) = l.take k ++ [l[k]] := List.take_succ_eq_append_getElem hkl
      have HTS := hid hts
      generalize l[k] = x at *
      have x0 : wr.cell? ⟨b, off + k, none⟩ = some (.int .i64 x) := (World.cell?_of_block (hbw.block b hbl)).trans q0
      obtain ⟨hx1, hx2⟩ := of_decide_eq_true hx
      clear hts hkl hres hh hbw q0 hx
      have hor : x = 0 ∨ (0 < x ∧ x ≤ 15) := by omega
      rcases hor with rfl | ⟨hp0, hp15⟩
      · have HT0 := hid (talArr_zero (l.take k))
        go_wp2
        go_roundw
        case rel => exact ⟨k + 1, by omega, by go_num, HRES.out, by rw [HTS.out, HT0.out]; exact HH.out, HBW.out⟩
        case measure => simp [intOf]; omega
      · obtain ⟨m, rfl⟩ := Int.eq_ofNat_of_zero_le (Int.le_of_lt hp0)
        have hm0 : 0 < m := by omega
        have hm15 : m ≤ 15 := by omega
        have hti := tal_le (l.take k) m
        have htl : (l.take k).length ≤ k := List.length_take_le _ _
        have cm : wr.cell? ⟨cb, m, none⟩ = some (.int .i64 (tal (l.take k) m : Nat)) := (HH.out.cell m).trans (talArr_get _ m (by omega))
        have cf := HH.out.frozen m
        have HPT := hid (HH.out.put m (.int .i64 (tal (l.take k) m + 1 : Nat)))
        rw [talArr_put (l.take k) m hm0 (by omega), ← HTS.out] at HPT
        have d1 : decide ((m : Int) < 0) = false := decide_eq_false (by omega)
        have d2 : decide (15 < (m : Int)) = false := decide_eq_false (by omega)
        have hr9 : (m : Int) < 16 := by omega
        generalize tal (l.take k) m = tm at *
        go_wp2
        have hcb2 := HCB.out
        exact ⟨⟨k + 1, by omega, by go_num, by simpa using (HRES.out.far (p := ⟨cb, m, none⟩) (show w.heap.size ≠ cb by omega) _), by simpa using HPT.out, Below.setCell HBW.out (p := ⟨cb, m, none⟩) (show w.heap.size ≤ cb by omega) _⟩, by simp [intOf]; omega⟩
    · obtain rfl : k = len := by omega
      have htk : l.take k = l := List.take_of_length_le (by have := hll.out; omega)
      rw [htk] at HH
      clear htk hres hh hbw
      have c0 : wr.cell? ⟨cb, 0, none⟩ = some (.int .i64 (tal l 0 : Nat)) := (HH.out.cell 0).trans (talArr_get _ 0 (by omega))
      have c1 : wr.cell? ⟨cb, 1, none⟩ = some (.int .i64 (tal l 1 : Nat)) := (HH.out.cell 1).trans (talArr_get _ 1 (by omega))
      have c2 : wr.cell? ⟨cb, 2, none⟩ = some (.int .i64 (tal l 2 : Nat)) := (HH.out.cell 2).trans (talArr_get _ 2 (by omega))
      have c3 : wr.cell? ⟨cb, 3, none⟩ = some (.int .i64 (tal l 3 : Nat)) := (HH.out.cell 3).trans (talArr_get _ 3 (by omega))
      have c4 : wr.cell? ⟨cb, 4, none⟩ = some (.int .i64 (tal l 4 : Nat)) := (HH.out.cell 4).trans (talArr_get _ 4 (by omega))
      have c5 : wr.cell? ⟨cb, 5, none⟩ = some (.int .i64 (tal l 5 : Nat)) := (HH.out.cell 5).trans (talArr_get _ 5 (by omega))
      have c6 : wr.cell? ⟨cb, 6, none⟩ = some (.int .i64 (tal l 6 : Nat)) := (HH.out.cell 6).trans (talArr_get _ 6 (by omega))
      have c7 : wr.cell? ⟨cb, 7, none⟩ = some (.int .i64 (tal l 7 : Nat)) := (HH.out.cell 7).trans (talArr_get _ 7 (by omega))
      have c8 : wr.cell? ⟨cb, 8, none⟩ = some (.int .i64 (tal l 8 : Nat)) := (HH.out.cell 8).trans (talArr_get _ 8 (by omega))
      have c9 : wr.cell? ⟨cb, 9, none⟩ = some (.int .i64 (tal l 9 : Nat)) := (HH.out.cell 9).trans (talArr_get _ 9 (by omega))
      have c10 : wr.cell? ⟨cb, 10, none⟩ = some (.int .i64 (tal l 10 : Nat)) := (HH.out.cell 10).trans (talArr_get _ 10 (by omega))
      have c11 : wr.cell? ⟨cb, 11, none⟩ = some (.int .i64 (tal l 11 : Nat)) := (HH.out.cell 11).trans (talArr_get _ 11 (by omega))
      have c12 : wr.cell? ⟨cb, 12, none⟩ = some (.int .i64 (tal l 12 : Nat)) := (HH.out.cell 12).trans (talArr_get _ 12 (by omega))
      have c13 : wr.cell? ⟨cb, 13, none⟩ = some (.int .i64 (tal l 13 : Nat)) := (HH.out.cell 13).trans (talArr_get _ 13 (by omega))
      have c14 : wr.cell? ⟨cb, 14, none⟩ = some (.int .i64 (tal l 14 : Nat)) := (HH.out.cell 14).trans (talArr_get _ 14 (by omega))
      have c15 : wr.cell? ⟨cb, 15, none⟩ = some (.int .i64 (tal l 15 : Nat)) := (HH.out.cell 15).trans (talArr_get _ 15 (by omega))
      have HPX := hid (has_all HRES.out [.int .i64 (tal l 0 : Nat), .int .i64 (tal l 1 : Nat), .int .i64 (tal l 2 : Nat), .int .i64 (tal l 3 : Nat), .int .i64 (tal l 4 : Nat), .int .i64 (tal l 5 : Nat), .int .i64 (tal l 6 : Nat), .int .i64 (tal l 7 : Nat), .int .i64 (tal l 8 : Nat), .int .i64 (tal l 9 : Nat), .int .i64 (tal l 10 : Nat), .int .i64 (tal l 11 : Nat), .int .i64 (tal l 12 : Nat), .int .i64 (tal l 13 : Nat), .int .i64 (tal l 14 : Nat), .int .i64 (tal l 15 : Nat)] rfl)
      have HPB := hid (bw_setCells (Nat.le_refl w.heap.size) [.int .i64 (tal l 0 : Nat), .int .i64 (tal l 1 : Nat), .int .i64 (tal l 2 : Nat), .int .i64 (tal l 3 : Nat), .int .i64 (tal l 4 : Nat), .int .i64 (tal l 5 : Nat), .int .i64 (tal l 6 : Nat), .int .i64 (tal l 7 : Nat), .int .i64 (tal l 8 : Nat), .int .i64 (tal l 9 : Nat), .int .i64 (tal l 10 : Nat), .int .i64 (tal l 11 : Nat), .int .i64 (tal l 12 : Nat), .int .i64 (tal l 13 : Nat), .int .i64 (tal l 14 : Nat), .int .i64 (tal l 15 : Nat)] 0 wr HBW.out)
      simp only [World.setCells, Nat.zero_add, Nat.reduceAdd] at HPX HPB
      have r0 : wr.cell? ⟨w.heap.size, 0, none⟩ = some (.int .i64 0) := HRES.out.cell 0
      have r1 : wr.cell? ⟨w.heap.size, 1, none⟩ = some (.int .i64 0) := HRES.out.cell 1
      have r2 : wr.cell? ⟨w.heap.size, 2, none⟩ = some (.int .i64 0) := HRES.out.cell 2
      have r3 : wr.cell? ⟨w.heap.size, 3, none⟩ = some (.int .i64 0) := HRES.out.cell 3
      have r4 : wr.cell? ⟨w.heap.size, 4, none⟩ = some (.int .i64 0) := HRES.out.cell 4
      have r5 : wr.cell? ⟨w.heap.size, 5, none⟩ = some (.int .i64 0) := HRES.out.cell 5
      have r6 : wr.cell? ⟨w.heap.size, 6, none⟩ = some (.int .i64 0) := HRES.out.cell 6
      have r7 : wr.cell? ⟨w.heap.size, 7, none⟩ = some (.int .i64 0) := HRES.out.cell 7
      have r8 : wr.cell? ⟨w.heap.size, 8, none⟩ = some (.int .i64 0) := HRES.out.cell 8
      have r9 : wr.cell? ⟨w.heap.size, 9, none⟩ = some (.int .i64 0) := HRES.out.cell 9
      have r10 : wr.cell? ⟨w.heap.size, 10, none⟩ = some (.int .i64 0) := HRES.out.cell 10
      have r11 : wr.cell? ⟨w.heap.size, 11, none⟩ = some (.int .i64 0) := HRES.out.cell 11
      have r12 : wr.cell? ⟨w.heap.size, 12, none⟩ = some (.int .i64 0) := HRES.out.cell 12
      have r13 : wr.cell? ⟨w.heap.size, 13, none⟩ = some (.int .i64 0) := HRES.out.cell 13
      have r14 : wr.cell? ⟨w.heap.size, 14, none⟩ = some (.int .i64 0) := HRES.out.cell 14
      have r15 : wr.cell? ⟨w.heap.size, 15, none⟩ = some (.int .i64 0) := HRES.out.cell 15
      have rf0 := HRES.out.frozen 0
      have rf1 := HRES.out.frozen 1
      have rf2 := HRES.out.frozen 2
      have rf3 := HRES.out.frozen 3
      have rf4 := HRES.out.frozen 4
      have rf5 := HRES.out.frozen 5
      have rf6 := HRES.out.frozen 6
      have rf7 := HRES.out.frozen 7
      have rf8 := HRES.out.frozen 8
      have rf9 := HRES.out.frozen 9
      have rf10 := HRES.out.frozen 10
      have rf11 := HRES.out.frozen 11
      have rf12 := HRES.out.frozen 12
      have rf13 := HRES.out.frozen 13
      have rf14 := HRES.out.frozen 14
      have rf15 := HRES.out.frozen 15
      go_wp2
      generalize World.setCell (World.setCell (World.setCell (World.setCell (World.setCell (World.setCell (World.setCell (World.setCell (World.setCell (World.setCell (World.setCell (World.setCell (World.setCell (World.setCell (World.setCell (World.setCell wr _ _) _ _) _ _) _ _) _ _) _ _) _ _) _ _) _ _) _ _) _ _) _ _) _ _) _ _) _ _) _ _ = W3 at *
      have p0 : W3.cell? ⟨w.heap.size, 0, none⟩ = some (.int .i64 (tal l 0 : Nat)) := HPX.out.cell 0
      have p1 : W3.cell? ⟨w.heap.size, 1, none⟩ = some (.int .i64 (tal l 1 : Nat)) := HPX.out.cell 1
      have p2 : W3.cell? ⟨w.heap.size, 2, none⟩ = some (.int .i64 (tal l 2 : Nat)) := HPX.out.cell 2
      have p3 : W3.cell? ⟨w.heap.size, 3, none⟩ = some (.int .i64 (tal l 3 : Nat)) := HPX.out.cell 3
      have p4 : W3.cell? ⟨w.heap.size, 4, none⟩ = some (.int .i64 (tal l 4 : Nat)) := HPX.out.cell 4
      have p5 : W3.cell? ⟨w.heap.size, 5, none⟩ = some (.int .i64 (tal l 5 : Nat)) := HPX.out.cell 5
      have p6 : W3.cell? ⟨w.heap.size, 6, none⟩ = some (.int .i64 (tal l 6 : Nat)) := HPX.out.cell 6
      have p7 : W3.cell? ⟨w.heap.size, 7, none⟩ = some (.int .i64 (tal l 7 : Nat)) := HPX.out.cell 7
      have p8 : W3.cell? ⟨w.heap.size, 8, none⟩ = some (.int .i64 (tal l 8 : Nat)) := HPX.out.cell 8
      have p9 : W3.cell? ⟨w.heap.size, 9, none⟩ = some (.int .i64 (tal l 9 : Nat)) := HPX.out.cell 9
      have p10 : W3.cell? ⟨w.heap.size, 10, none⟩ = some (.int .i64 (tal l 10 : Nat)) := HPX.out.cell 10
      have p11 : W3.cell? ⟨w.heap.size, 11, none⟩ = some (.int .i64 (tal l 11 : Nat)) := HPX.out.cell 11
      have p12 : W3.cell? ⟨w.heap.size, 12, none⟩ = some (.int .i64 (tal l 12 : Nat)) := HPX.out.cell 12
      have p13 : W3.cell? ⟨w.heap.size, 13, none⟩ = some (.int .i64 (tal l 13 : Nat)) := HPX.out.cell 13
      have p14 : W3.cell? ⟨w.heap.size, 14, none⟩ = some (.int .i64 (tal l 14 : Nat)) := HPX.out.cell 14
      have p15 : W3.cell? ⟨w.heap.size, 15, none⟩ = some (.int .i64 (tal l 15 : Nat)) := HPX.out.cell 15
      clear HPX
      try simp only [Exit.inBlock, Exit.then]
      refine bodyPost_ret (by simp [results, Tryz.results116, go_sem, p0, p1, p2, p3, p4, p5, p6, p7, p8, p9, p10, p11, p12, p13, p14, p15]; try rfl) rfl ?_
      exact ⟨rfl, HPB.out⟩
end Go.Proofs.YtkmbgkcpohchhaaGreatDoor
namespace Go.Proofs.YtkmbgkcpohchhaaGreatDoor
open Go.RowKit
set_option linter.unusedVariables false
theorem cells_tally : Tryz.prog.cellsOf 170 = 16 := by kernel_rfl
theorem cells_int : Tryz.prog.cellsOf 3 = 1 := by kernel_rfl
set_option maxRecDepth 100000 in
set_option maxHeartbeats 2000000 in
theorem lits_tally (a0 a1 a2 a3 a4 a5 a6 a7 a8 a9 a10 a11 a12 a13 a14 a15 : Int) (h : (Lit.int .i64 a0).wf = true ∧ (Lit.int .i64 a1).wf = true ∧ (Lit.int .i64 a2).wf = true ∧ (Lit.int .i64 a3).wf = true ∧ (Lit.int .i64 a4).wf = true ∧ (Lit.int .i64 a5).wf = true ∧ (Lit.int .i64 a6).wf = true ∧ (Lit.int .i64 a7).wf = true ∧ (Lit.int .i64 a8).wf = true ∧ (Lit.int .i64 a9).wf = true ∧ (Lit.int .i64 a10).wf = true ∧ (Lit.int .i64 a11).wf = true ∧ (Lit.int .i64 a12).wf = true ∧ (Lit.int .i64 a13).wf = true ∧ (Lit.int .i64 a14).wf = true ∧ (Lit.int .i64 a15).wf = true) : Tryz.prog.keyLits 2 170 (.agg #[.int .i64 a0, .int .i64 a1, .int .i64 a2, .int .i64 a3, .int .i64 a4, .int .i64 a5, .int .i64 a6, .int .i64 a7, .int .i64 a8, .int .i64 a9, .int .i64 a10, .int .i64 a11, .int .i64 a12, .int .i64 a13, .int .i64 a14, .int .i64 a15] : Value).cells.toList = some [.int .i64 a0, .int .i64 a1, .int .i64 a2, .int .i64 a3, .int .i64 a4, .int .i64 a5, .int .i64 a6, .int .i64 a7, .int .i64 a8, .int .i64 a9, .int .i64 a10, .int .i64 a11, .int .i64 a12, .int .i64 a13, .int .i64 a14, .int .i64 a15] := by
  obtain ⟨h0, h1, h2, h3, h4, h5, h6, h7, h8, h9, h10, h11, h12, h13, h14, h15⟩ := h
  simp [Program.keyLits, Tryz.underlying170, Tryz.underlying3, cells_tally, cells_int, Value.cells, List.range, List.range.loop, h0, h1, h2, h3, h4, h5, h6, h7, h8, h9, h10, h11, h12, h13, h14, h15]
set_option maxRecDepth 100000 in
theorem run_eqTally (a0 a1 a2 a3 a4 a5 a6 a7 a8 a9 a10 a11 a12 a13 a14 a15 b0 b1 b2 b3 b4 b5 b6 b7 b8 b9 b10 b11 b12 b13 b14 b15 : Int) (ha : (Lit.int .i64 a0).wf = true ∧ (Lit.int .i64 a1).wf = true ∧ (Lit.int .i64 a2).wf = true ∧ (Lit.int .i64 a3).wf = true ∧ (Lit.int .i64 a4).wf = true ∧ (Lit.int .i64 a5).wf = true ∧ (Lit.int .i64 a6).wf = true ∧ (Lit.int .i64 a7).wf = true ∧ (Lit.int .i64 a8).wf = true ∧ (Lit.int .i64 a9).wf = true ∧ (Lit.int .i64 a10).wf = true ∧ (Lit.int .i64 a11).wf = true ∧ (Lit.int .i64 a12).wf = true ∧ (Lit.int .i64 a13).wf = true ∧ (Lit.int .i64 a14).wf = true ∧ (Lit.int .i64 a15).wf = true) (hb : (Lit.int .i64 b0).wf = true ∧ (Lit.int .i64 b1).wf = true ∧ (Lit.int .i64 b2).wf = true ∧ (Lit.int .i64 b3).wf = true ∧ (Lit.int .i64 b4).wf = true ∧ (Lit.int .i64 b5).wf = true ∧ (Lit.int .i64 b6).wf = true ∧ (Lit.int .i64 b7).wf = true ∧ (Lit.int .i64 b8).wf = true ∧ (Lit.int .i64 b9).wf = true ∧ (Lit.int .i64 b10).wf = true ∧ (Lit.int .i64 b11).wf = true ∧ (Lit.int .i64 b12).wf = true ∧ (Lit.int .i64 b13).wf = true ∧ (Lit.int .i64 b14).wf = true ∧ (Lit.int .i64 b15).wf = true) (w : World) :
    (Op.equalIn 10000 170 (.agg #[.int .i64 a0, .int .i64 a1, .int .i64 a2, .int .i64 a3, .int .i64 a4, .int .i64 a5, .int .i64 a6, .int .i64 a7, .int .i64 a8, .int .i64 a9, .int .i64 a10, .int .i64 a11, .int .i64 a12, .int .i64 a13, .int .i64 a14, .int .i64 a15]) (.agg #[.int .i64 b0, .int .i64 b1, .int .i64 b2, .int .i64 b3, .int .i64 b4, .int .i64 b5, .int .i64 b6, .int .i64 b7, .int .i64 b8, .int .i64 b9, .int .i64 b10, .int .i64 b11, .int .i64 b12, .int .i64 b13, .int .i64 b14, .int .i64 b15])).run Tryz.prog w = .ok (decide (([a0, a1, a2, a3, a4, a5, a6, a7, a8, a9, a10, a11, a12, a13, a14, a15] : List Int) = [b0, b1, b2, b3, b4, b5, b6, b7, b8, b9, b10, b11, b12, b13, b14, b15])) w := by
  obtain ⟨r, h1, h2⟩ := run_equalIn_deep (P := Tryz.prog) 9998 2 170 (by kernel_rfl) w 2 2 (.agg #[.int .i64 a0, .int .i64 a1, .int .i64 a2, .int .i64 a3, .int .i64 a4, .int .i64 a5, .int .i64 a6, .int .i64 a7, .int .i64 a8, .int .i64 a9, .int .i64 a10, .int .i64 a11, .int .i64 a12, .int .i64 a13, .int .i64 a14, .int .i64 a15]) (.agg #[.int .i64 b0, .int .i64 b1, .int .i64 b2, .int .i64 b3, .int .i64 b4, .int .i64 b5, .int .i64 b6, .int .i64 b7, .int .i64 b8, .int .i64 b9, .int .i64 b10, .int .i64 b11, .int .i64 b12, .int .i64 b13, .int .i64 b14, .int .i64 b15]) [.int .i64 a0, .int .i64 a1, .int .i64 a2, .int .i64 a3, .int .i64 a4, .int .i64 a5, .int .i64 a6, .int .i64 a7, .int .i64 a8, .int .i64 a9, .int .i64 a10, .int .i64 a11, .int .i64 a12, .int .i64 a13, .int .i64 a14, .int .i64 a15] [.int .i64 b0, .int .i64 b1, .int .i64 b2, .int .i64 b3, .int .i64 b4, .int .i64 b5, .int .i64 b6, .int .i64 b7, .int .i64 b8, .int .i64 b9, .int .i64 b10, .int .i64 b11, .int .i64 b12, .int .i64 b13, .int .i64 b14, .int .i64 b15] (by simp [Value.formed, cells_tally]) (by simp [Value.formed, cells_tally]) (lits_tally a0 a1 a2 a3 a4 a5 a6 a7 a8 a9 a10 a11 a12 a13 a14 a15 ha) (lits_tally b0 b1 b2 b3 b4 b5 b6 b7 b8 b9 b10 b11 b12 b13 b14 b15 hb)
  rw [h1]
  congr 1
  cases r with
  | true =>
    have h3 := h2.1 rfl
    refine (decide_eq_true ?_).symm
    simpa using h3
  | false =>
    refine (decide_eq_false fun h => ?_).symm
    have h3 := h2.2 (by simpa using h)
    cases h3
end Go.Proofs.YtkmbgkcpohchhaaGreatDoor
namespace Go.Proofs.YtkmbgkcpohchhaaGreatDoor
open Go.RowKit
set_option linter.unusedVariables false
theorem wf_tal (l : List Int) (j : Nat) (h : l.length ≤ 320) : (Lit.int .i64 (tal l j : Nat)).wf = true := by
  have := tal_le l j
  simp [Lit.wf, IntKind.min, IntKind.max, IntKind.bits, IntKind.signed]
  omega
def kraftS (l : List Int) : Nat → Nat
  | 0 => 0
  | k + 1 => kraftS l k + tal l k * 2 ^ (15 - k)
theorem kraftS_le (l : List Int) (h : l.length ≤ 320) : ∀ k, kraftS l k ≤ k * 10485760
  | 0 => by simp [kraftS]
  | k + 1 => by
    have h1 := kraftS_le l h k
    have h2 := tal_le l k
    have h3 : 2 ^ (15 - k) ≤ 2 ^ 15 := Nat.pow_le_pow_right (by decide) (by omega)
    have h4 : tal l k * 2 ^ (15 - k) ≤ 320 * 2 ^ 15 := Nat.mul_le_mul (by omega) h3
    show kraftS l k + tal l k * 2 ^ (15 - k) ≤ _
    omega
def zeroB (l : List Int) : Bool := decide (([((tal l 0 : Nat) : Int), ((tal l 1 : Nat) : Int), ((tal l 2 : Nat) : Int), ((tal l 3 : Nat) : Int), ((tal l 4 : Nat) : Int), ((tal l 5 : Nat) : Int), ((tal l 6 : Nat) : Int), ((tal l 7 : Nat) : Int), ((tal l 8 : Nat) : Int), ((tal l 9 : Nat) : Int), ((tal l 10 : Nat) : Int), ((tal l 11 : Nat) : Int), ((tal l 12 : Nat) : Int), ((tal l 13 : Nat) : Int), ((tal l 14 : Nat) : Int), ((tal l 15 : Nat) : Int)] : List Int) = [0, 0, 0, 0, 0, 0, 0, 0, 0, 0, 0, 0, 0, 0, 0, 0])
def oneB (l : List Int) : Bool := decide (([((tal l 0 : Nat) : Int), ((tal l 1 : Nat) : Int), ((tal l 2 : Nat) : Int), ((tal l 3 : Nat) : Int), ((tal l 4 : Nat) : Int), ((tal l 5 : Nat) : Int), ((tal l 6 : Nat) : Int), ((tal l 7 : Nat) : Int), ((tal l 8 : Nat) : Int), ((tal l 9 : Nat) : Int), ((tal l 10 : Nat) : Int), ((tal l 11 : Nat) : Int), ((tal l 12 : Nat) : Int), ((tal l 13 : Nat) : Int), ((tal l 14 : Nat) : Int), ((tal l 15 : Nat) : Int)] : List Int) = [0, 1, 0, 0, 0, 0, 0, 0, 0, 0, 0, 0, 0, 0, 0, 0])
def codeB (l : List Int) : Bool := zeroB l || (oneB l || decide (kraftS l 16 = 32768))
set_option maxRecDepth 100000 in
set_option maxHeartbeats 4000000 in
theorem isCode_any (l : List Int) (h320 : l.length ≤ 320) (w : World) :
    Calls Tryz.prog 136 #[.agg #[.int .i64 (tal l 0 : Nat), .int .i64 (tal l 1 : Nat), .int .i64 (tal l 2 : Nat), .int .i64 (tal l 3 : Nat), .int .i64 (tal l 4 : Nat), .int .i64 (tal l 5 : Nat), .int .i64 (tal l 6 : Nat), .int .i64 (tal l 7 : Nat), .int .i64 (tal l 8 : Nat), .int .i64 (tal l 9 : Nat), .int .i64 (tal l 10 : Nat), .int .i64 (tal l 11 : Nat), .int .i64 (tal l 12 : Nat), .int .i64 (tal l 13 : Nat), .int .i64 (tal l 14 : Nat), .int .i64 (tal l 15 : Nat)]] w fun e w' => e = .returned (.bool (codeB l)) ∧ Bw w w' := by
  have HE0 := hid (fun W => run_eqTally (tal l 0 : Nat) (tal l 1 : Nat) (tal l 2 : Nat) (tal l 3 : Nat) (tal l 4 : Nat) (tal l 5 : Nat) (tal l 6 : Nat) (tal l 7 : Nat) (tal l 8 : Nat) (tal l 9 : Nat) (tal l 10 : Nat) (tal l 11 : Nat) (tal l 12 : Nat) (tal l 13 : Nat) (tal l 14 : Nat) (tal l 15 : Nat) 0 0 0 0 0 0 0 0 0 0 0 0 0 0 0 0 ⟨wf_tal l 0 h320, wf_tal l 1 h320, wf_tal l 2 h320, wf_tal l 3 h320, wf_tal l 4 h320, wf_tal l 5 h320, wf_tal l 6 h320, wf_tal l 7 h320, wf_tal l 8 h320, wf_tal l 9 h320, wf_tal l 10 h320, wf_tal l 11 h320, wf_tal l 12 h320, wf_tal l 13 h320, wf_tal l 14 h320, wf_tal l 15 h320⟩ ⟨rfl, rfl, rfl, rfl, rfl, rfl, rfl, rfl, rfl, rfl, rfl, rfl, rfl, rfl, rfl, rfl⟩ W)
  have HE1 := hid (fun W => run_eqTally (tal l 0 : Nat) (tal l 1 : Nat) (tal l 2 : Nat) (tal l 3 : Nat) (tal l 4 : Nat) (tal l 5 : Nat) (tal l 6 : Nat) (tal l 7 : Nat) (tal l 8 : Nat) (tal l 9 : Nat) (tal l 10 : Nat) (tal l 11 : Nat) (tal l 12 : Nat) (tal l 13 : Nat) (tal l 14 : Nat) (tal l 15 : Nat) 0 1 0 0 0 0 0 0 0 0 0 0 0 0 0 0 ⟨wf_tal l 0 h320, wf_tal l 1 h320, wf_tal l 2 h320, wf_tal l 3 h320, wf_tal l 4 h320, wf_tal l 5 h320, wf_tal l 6 h320, wf_tal l 7 h320, wf_tal l 8 h320, wf_tal l 9 h320, wf_tal l 10 h320, wf_tal l 11 h320, wf_tal l 12 h320, wf_tal l 13 h320, wf_tal l 14 h320, wf_tal l 15 h320⟩ ⟨rfl, rfl, rfl, rfl, rfl, rfl, rfl, rfl, rfl, rfl, rfl, rfl, rfl, rfl, rfl, rfl⟩ W)
  have hz0 : zeroB l = decide (([((tal l 0 : Nat) : Int), ((tal l 1 : Nat) : Int), ((tal l 2 : Nat) : Int), ((tal l 3 : Nat) : Int), ((tal l 4 : Nat) : Int), ((tal l 5 : Nat) : Int), ((tal l 6 : Nat) : Int), ((tal l 7 : Nat) : Int), ((tal l 8 : Nat) : Int), ((tal l 9 : Nat) : Int), ((tal l 10 : Nat) : Int), ((tal l 11 : Nat) : Int), ((tal l 12 : Nat) : Int), ((tal l 13 : Nat) : Int), ((tal l 14 : Nat) : Int), ((tal l 15 : Nat) : Int)] : List Int) = [0, 0, 0, 0, 0, 0, 0, 0, 0, 0, 0, 0, 0, 0, 0, 0]) := rfl
  have ho1 : oneB l = decide (([((tal l 0 : Nat) : Int), ((tal l 1 : Nat) : Int), ((tal l 2 : Nat) : Int), ((tal l 3 : Nat) : Int), ((tal l 4 : Nat) : Int), ((tal l 5 : Nat) : Int), ((tal l 6 : Nat) : Int), ((tal l 7 : Nat) : Int), ((tal l 8 : Nat) : Int), ((tal l 9 : Nat) : Int), ((tal l 10 : Nat) : Int), ((tal l 11 : Nat) : Int), ((tal l 12 : Nat) : Int), ((tal l 13 : Nat) : Int), ((tal l 14 : Nat) : Int), ((tal l 15 : Nat) : Int)] : List Int) = [0, 1, 0, 0, 0, 0, 0, 0, 0, 0, 0, 0, 0, 0, 0, 0]) := rfl
  rw [← hz0] at HE0
  rw [← ho1] at HE1
  have HCB := hid (show codeB l = (zeroB l || (oneB l || decide (kraftS l 16 = 32768))) from rfl)
  clear hz0 ho1
  generalize zeroB l = zb at *
  generalize oneB l = ob at *
  have HBX := hid (Has.new w 170 #[.int .i64 (tal l 0 : Nat), .int .i64 (tal l 1 : Nat), .int .i64 (tal l 2 : Nat), .int .i64 (tal l 3 : Nat), .int .i64 (tal l 4 : Nat), .int .i64 (tal l 5 : Nat), .int .i64 (tal l 6 : Nat), .int .i64 (tal l 7 : Nat), .int .i64 (tal l 8 : Nat), .int .i64 (tal l 9 : Nat), .int .i64 (tal l 10 : Nat), .int .i64 (tal l 11 : Nat), .int .i64 (tal l 12 : Nat), .int .i64 (tal l 13 : Nat), .int .i64 (tal l 14 : Nat), .int .i64 (tal l 15 : Nat)])
  have HW1 := hid ((Bw.refl w).alloc (.cells #[.int .i64 (tal l 0 : Nat), .int .i64 (tal l 1 : Nat), .int .i64 (tal l 2 : Nat), .int .i64 (tal l 3 : Nat), .int .i64 (tal l 4 : Nat), .int .i64 (tal l 5 : Nat), .int .i64 (tal l 6 : Nat), .int .i64 (tal l 7 : Nat), .int .i64 (tal l 8 : Nat), .int .i64 (tal l 9 : Nat), .int .i64 (tal l 10 : Nat), .int .i64 (tal l 11 : Nat), .int .i64 (tal l 12 : Nat), .int .i64 (tal l 13 : Nat), .int .i64 (tal l 14 : Nat), .int .i64 (tal l 15 : Nat)] 170))
  cases zb with
  | true =>
    have HCT := hid (show codeB l = true from HCB.out)
    rw [HCT.out]
    go_enter Tryz.func136, Tryz.ntmps136
    go_wp2_with (simp only [HE0.out]; go_simp)
    go_returns
    exact ⟨rfl, HW1.out⟩
  | false =>
    cases ob with
    | true =>
      have HCT := hid (show codeB l = true from HCB.out)
      rw [HCT.out]
      go_enter Tryz.func136, Tryz.ntmps136
      go_wp2_with (first | (simp only [HE0.out]; go_simp) | (simp only [HE1.out]; go_simp))
      go_returns
      exact ⟨rfl, HW1.out⟩
    | false =>
      have HCT := hid (show codeB l = decide (kraftS l 16 = 32768) from HCB.out)
      rw [HCT.out]
      go_enter Tryz.func136, Tryz.ntmps136
      go_wp2_with (first | (simp only [HE0.out]; go_simp) | (simp only [HE1.out]; go_simp))
      generalize w.alloc (.cells #[.int .i64 (tal l 0 : Nat), .int .i64 (tal l 1 : Nat), .int .i64 (tal l 2 : Nat), .int .i64 (tal l 3 : Nat), .int .i64 (tal l 4 : Nat), .int .i64 (tal l 5 : Nat), .int .i64 (tal l 6 : Nat), .int .i64 (tal l 7 : Nat), .int .i64 (tal l 8 : Nat), .int .i64 (tal l 9 : Nat), .int .i64 (tal l 10 : Nat), .int .i64 (tal l 11 : Nat), .int .i64 (tal l 12 : Nat), .int .i64 (tal l 13 : Nat), .int .i64 (tal l 14 : Nat), .int .i64 (tal l 15 : Nat)] 170) = W1 at *
      go_loopw [3, 4] (fun v n wr => ∃ k : Nat, 1 ≤ k ∧ k ≤ 16 ∧ n = .int .i64 k ∧ v = .int .i64 (kraftS l k : Nat) ∧ wr = W1) (fun _ n _ => 16 - (intOf n).toNat)
      case atStart => exact ⟨1, by omega, by omega, rfl, by simp [kraftS, tal], rfl⟩
      case round =>
        rename World => wz
        obtain ⟨k, hk1, hk, rfl, rfl, rfl⟩ := hrel
        by_cases hlt : k < 16
        · have hti := tal_le l k
          have hks := kraftS_le l h320 k
          have hor : k = 1 ∨ k = 2 ∨ k = 3 ∨ k = 4 ∨ k = 5 ∨ k = 6 ∨ k = 7 ∨ k = 8 ∨ k = 9 ∨ k = 10 ∨ k = 11 ∨ k = 12 ∨ k = 13 ∨ k = 14 ∨ k = 15 := by omega
          rcases hor with rfl | rfl | rfl | rfl | rfl | rfl | rfl | rfl | rfl | rfl | rfl | rfl | rfl | rfl | rfl
          · have c1 : wz.cell? ⟨w.heap.size, 1, none⟩ = some (.int .i64 (tal l 1 : Nat)) := HBX.out.cell 1
            have HS := hid (show kraftS l 2 = kraftS l 1 + tal l 1 * 16384 from rfl)
            generalize tal l 1 = tk at *
            generalize kraftS l 1 = sk at *
            go_wp2
            exact ⟨⟨2, by omega, by omega, rfl, congrArg (Value.int .i64) (by have := HS.out; omega), by first | trivial | rfl⟩, by simp [intOf]⟩
          · have c2 : wz.cell? ⟨w.heap.size, 2, none⟩ = some (.int .i64 (tal l 2 : Nat)) := HBX.out.cell 2
            have HS := hid (show kraftS l 3 = kraftS l 2 + tal l 2 * 8192 from rfl)
            generalize tal l 2 = tk at *
            generalize kraftS l 2 = sk at *
            go_wp2
            exact ⟨⟨3, by omega, by omega, rfl, congrArg (Value.int .i64) (by have := HS.out; omega), by first | trivial | rfl⟩, by simp [intOf]⟩
          · have c3 : wz.cell? ⟨w.heap.size, 3, none⟩ = some (.int .i64 (tal l 3 : Nat)) := HBX.out.cell 3
            have HS := hid (show kraftS l 4 = kraftS l 3 + tal l 3 * 4096 from rfl)
            generalize tal l 3 = tk at *
            generalize kraftS l 3 = sk at *
            go_wp2
            exact ⟨⟨4, by omega, by omega, rfl, congrArg (Value.int .i64) (by have := HS.out; omega), by first | trivial | rfl⟩, by simp [intOf]⟩
          · have c4 : wz.cell? ⟨w.heap.size, 4, none⟩ = some (.int .i64 (tal l 4 : Nat)) := HBX.out.cell 4
            have HS := hid (show kraftS l 5 = kraftS l 4 + tal l 4 * 2048 from rfl)
            generalize tal l 4 = tk at *
            generalize kraftS l 4 = sk at *
            go_wp2
            exact ⟨⟨5, by omega, by omega, rfl, congrArg (Value.int .i64) (by have := HS.out; omega), by first | trivial | rfl⟩, by simp [intOf]⟩
          · have c5 : wz.cell? ⟨w.heap.size, 5, none⟩ = some (.int .i64 (tal l 5 : Nat)) := HBX.out.cell 5
            have HS := hid (show kraftS l 6 = kraftS l 5 + tal l 5 * 1024 from rfl)
            generalize tal l 5 = tk at *
            generalize kraftS l 5 = sk at *
            go_wp2
            exact ⟨⟨6, by omega, by omega, rfl, congrArg (Value.int .i64) (by have := HS.out; omega), by first | trivial | rfl⟩, by simp [intOf]⟩
          · have c6 : wz.cell? ⟨w.heap.size, 6, none⟩ = some (.int .i64 (tal l 6 : Nat)) := HBX.out.cell 6
            have HS := hid (show kraftS l 7 = kraftS l 6 + tal l 6 * 512 from rfl)
            generalize tal l 6 = tk at *
            generalize kraftS l 6 = sk at *
            go_wp2
            exact ⟨⟨7, by omega, by omega, rfl, congrArg (Value.int .i64) (by have := HS.out; omega), by first | trivial | rfl⟩, by simp [intOf]⟩
          · have c7 : wz.cell? ⟨w.heap.size, 7, none⟩ = some (.int .i64 (tal l 7 : Nat)) := HBX.out.cell 7
            have HS := hid (show kraftS l 8 = kraftS l 7 + tal l 7 * 256 from rfl)
            generalize tal l 7 = tk at *
            generalize kraftS l 7 = sk at *
            go_wp2
            exact ⟨⟨8, by omega, by omega, rfl, congrArg (Value.int .i64) (by have := HS.out; omega), by first | trivial | rfl⟩, by simp [intOf]⟩
          · have c8 : wz.cell? ⟨w.heap.size, 8, none⟩ = some (.int .i64 (tal l 8 : Nat)) := HBX.out.cell 8
            have HS := hid (show kraftS l 9 = kraftS l 8 + tal l 8 * 128 from rfl)
            generalize tal l 8 = tk at *
            generalize kraftS l 8 = sk at *
            go_wp2
            exact ⟨⟨9, by omega, by omega, rfl, congrArg (Value.int .i64) (by have := HS.out; omega), by first | trivial | rfl⟩, by simp [intOf]⟩
          · have c9 : wz.cell? ⟨w.heap.size, 9, none⟩ = some (.int .i64 (tal l 9 : Nat)) := HBX.out.cell 9
            have HS := hid (show kraftS l 10 = kraftS l 9 + tal l 9 * 64 from rfl)
            generalize tal l 9 = tk at *
            generalize kraftS l 9 = sk at *
            go_wp2
            exact ⟨⟨10, by omega, by omega, rfl, congrArg (Value.int .i64) (by have := HS.out; omega), by first | trivial | rfl⟩, by simp [intOf]⟩
          · have c10 : wz.cell? ⟨w.heap.size, 10, none⟩ = some (.int .i64 (tal l 10 : Nat)) := HBX.out.cell 10
            have HS := hid (show kraftS l 11 = kraftS l 10 + tal l 10 * 32 from rfl)
            generalize tal l 10 = tk at *
            generalize kraftS l 10 = sk at *
            go_wp2
            exact ⟨⟨11, by omega, by omega, rfl, congrArg (Value.int .i64) (by have := HS.out; omega), by first | trivial | rfl⟩, by simp [intOf]⟩
          · have c11 : wz.cell? ⟨w.heap.size, 11, none⟩ = some (.int .i64 (tal l 11 : Nat)) := HBX.out.cell 11
            have HS := hid (show kraftS l 12 = kraftS l 11 + tal l 11 * 16 from rfl)
            generalize tal l 11 = tk at *
            generalize kraftS l 11 = sk at *
            go_wp2
            exact ⟨⟨12, by omega, by omega, rfl, congrArg (Value.int .i64) (by have := HS.out; omega), by first | trivial | rfl⟩, by simp [intOf]⟩
          · have c12 : wz.cell? ⟨w.heap.size, 12, none⟩ = some (.int .i64 (tal l 12 : Nat)) := HBX.out.cell 12
            have HS := hid (show kraftS l 13 = kraftS l 12 + tal l 12 * 8 from rfl)
            generalize tal l 12 = tk at *
            generalize kraftS l 12 = sk at *
            go_wp2
            exact ⟨⟨13, by omega, by omega, rfl, congrArg (Value.int .i64) (by have := HS.out; omega), by first | trivial | rfl⟩, by simp [intOf]⟩
          · have c13 : wz.cell? ⟨w.heap.size, 13, none⟩ = some (.int .i64 (tal l 13 : Nat)) := HBX.out.cell 13
            have HS := hid (show kraftS l 14 = kraftS l 13 + tal l 13 * 4 from rfl)
            generalize tal l 13 = tk at *
            generalize kraftS l 13 = sk at *
            go_wp2
            exact ⟨⟨14, by omega, by omega, rfl, congrArg (Value.int .i64) (by have := HS.out; omega), by first | trivial | rfl⟩, by simp [intOf]⟩
          · have c14 : wz.cell? ⟨w.heap.size, 14, none⟩ = some (.int .i64 (tal l 14 : Nat)) := HBX.out.cell 14
            have HS := hid (show kraftS l 15 = kraftS l 14 + tal l 14 * 2 from rfl)
            generalize tal l 14 = tk at *
            generalize kraftS l 14 = sk at *
            go_wp2
            exact ⟨⟨15, by omega, by omega, rfl, congrArg (Value.int .i64) (by have := HS.out; omega), by first | trivial | rfl⟩, by simp [intOf]⟩
          · have c15 : wz.cell? ⟨w.heap.size, 15, none⟩ = some (.int .i64 (tal l 15 : Nat)) := HBX.out.cell 15
            have HS := hid (show kraftS l 16 = kraftS l 15 + tal l 15 * 1 from rfl)
            generalize tal l 15 = tk at *
            generalize kraftS l 15 = sk at *
            go_wp2
            exact ⟨⟨16, by omega, by omega, rfl, congrArg (Value.int .i64) (by have := HS.out; omega), by first | trivial | rfl⟩, by simp [intOf]⟩
        · obtain rfl : k = 16 := by omega
          obtain ⟨sk, hsk⟩ : ∃ sk, kraftS l 16 = sk := ⟨_, rfl⟩
          have HSK := hid hsk
          rw [hsk]
          clear hsk
          go_wp2
          go_returns
          refine ⟨ret_bool ?_, HW1.out⟩
          rw [HSK.out]
          by_cases h : sk = 32768
          · subst h; rfl
          · rw [decide_eq_false h]; first | (simp; omega) | (exact beq_eq_false_iff_ne.2 (by omega)) | (exact decide_eq_false (by omega))
end Go.Proofs.YtkmbgkcpohchhaaGreatDoor
namespace Go.Proofs.YtkmbgkcpohchhaaGreatDoor
open Go.RowKit
set_option linter.unusedVariables false
theorem talArr_eq (l : List Int) : talArr l = #[.int .i64 (tal l 0 : Nat), .int .i64 (tal l 1 : Nat), .int .i64 (tal l 2 : Nat), .int .i64 (tal l 3 : Nat), .int .i64 (tal l 4 : Nat), .int .i64 (tal l 5 : Nat), .int .i64 (tal l 6 : Nat), .int .i64 (tal l 7 : Nat), .int .i64 (tal l 8 : Nat), .int .i64 (tal l 9 : Nat), .int .i64 (tal l 10 : Nat), .int .i64 (tal l 11 : Nat), .int .i64 (tal l 12 : Nat), .int .i64 (tal l 13 : Nat), .int .i64 (tal l 14 : Nat), .int .i64 (tal l 15 : Nat)] := by simp [talArr, List.range, List.range.loop]
theorem count_any (a : Option Addr) (len cap : Nat) (l : List Int) (hll : Hid (l.length = len)) (w : World) (hst : ZsAt w a l) :
    Calls Tryz.prog 116 #[.slice a len cap] w fun e w' => e = .returned (.tuple #[cntV l, .bool (okLens l)]) ∧ Bw w w' := by
  by_cases h320 : 320 < len
  · have hok : okLens l = false := by unfold okLens; rw [decide_eq_false (by rw [hll.out]; omega)]; rfl
    have e1 : cntV l = .agg #[.int .i64 0, .int .i64 0, .int .i64 0, .int .i64 0, .int .i64 0, .int .i64 0, .int .i64 0, .int .i64 0, .int .i64 0, .int .i64 0, .int .i64 0, .int .i64 0, .int .i64 0, .int .i64 0, .int .i64 0, .int .i64 0] := by unfold cntV; rw [hok]; rfl
    rw [e1, hok]
    exact count_big a len cap h320 w
  · have hal : okLens l = l.all lenB := by unfold okLens; rw [decide_eq_true (by rw [hll.out]; omega), Bool.true_and]
    cases hA : l.all lenB with
    | true =>
      have hok := hal.trans hA
      have e1 : cntV l = .agg #[.int .i64 (tal l 0 : Nat), .int .i64 (tal l 1 : Nat), .int .i64 (tal l 2 : Nat), .int .i64 (tal l 3 : Nat), .int .i64 (tal l 4 : Nat), .int .i64 (tal l 5 : Nat), .int .i64 (tal l 6 : Nat), .int .i64 (tal l 7 : Nat), .int .i64 (tal l 8 : Nat), .int .i64 (tal l 9 : Nat), .int .i64 (tal l 10 : Nat), .int .i64 (tal l 11 : Nat), .int .i64 (tal l 12 : Nat), .int .i64 (tal l 13 : Nat), .int .i64 (tal l 14 : Nat), .int .i64 (tal l 15 : Nat)] := by unfold cntV; rw [hok, if_pos rfl, talArr_eq]
      rw [e1, hok]
      exact count_good a len cap (by omega) l hll (fun i h _ => List.all_eq_true.1 hA _ (List.getElem_mem h)) w hst
    | false =>
      have hok := hal.trans hA
      have e1 : cntV l = .agg #[.int .i64 0, .int .i64 0, .int .i64 0, .int .i64 0, .int .i64 0, .int .i64 0, .int .i64 0, .int .i64 0, .int .i64 0, .int .i64 0, .int .i64 0, .int .i64 0, .int .i64 0, .int .i64 0, .int .i64 0, .int .i64 0] := by unfold cntV; rw [hok]; rfl
      rw [e1, hok]
      obtain ⟨x, hx, hb⟩ : ∃ x ∈ l, lenB x = false := by
        rw [← Bool.not_eq_true, List.all_eq_true] at hA
        rcases Classical.em (∃ x ∈ l, lenB x = false) with h | h
        · exact h
        · exact absurd (fun x hx => by
            cases hc : lenB x with
            | true => rfl
            | false => exact absurd ⟨x, hx, hc⟩ h) hA
      have hj : l.findIdx (fun x => !lenB x) < l.length := List.findIdx_lt_length.2 ⟨x, hx, by rw [hb]; rfl⟩
      have hbj := List.findIdx_getElem (w := hj)
      have hall : ∀ i (h : i < l.length), i < l.findIdx (fun x => !lenB x) → lenB l[i] = true := fun i h hi => by
        have := List.not_of_lt_findIdx hi
        simpa using this
      have hbf : lenB (l[l.findIdx (fun x => !lenB x)]) = false := by simpa using hbj
      have hn := of_decide_eq_false hbf
      by_cases h0 : l[l.findIdx (fun x => !lenB x)] < 0
      · exact count_neg a len cap (by omega) l hll _ hj hall h0 w hst
      · exact count_great a len cap (by omega) l hll _ hj hall (by omega) w hst
def checkE (l : List Int) : Int := if okLens l then (if codeB l then 0 else 3) else 1
set_option maxRecDepth 100000 in
set_option maxHeartbeats 4000000 in
theorem check_any (a : Option Addr) (len cap : Nat) (l : List Int) (hll : Hid (l.length = len)) (w : World) (hst : ZsAt w a l) :
    Calls Tryz.prog 115 #[.slice a len cap] w fun e w' => e = .returned (.int .i64 (checkE l)) ∧ Bw w w' := by
  have HC := hid (count_any a len cap l hll w hst)
  cases hok : okLens l with
  | false =>
    have e1 : cntV l = .agg #[.int .i64 0, .int .i64 0, .int .i64 0, .int .i64 0, .int .i64 0, .int .i64 0, .int .i64 0, .int .i64 0, .int .i64 0, .int .i64 0, .int .i64 0, .int .i64 0, .int .i64 0, .int .i64 0, .int .i64 0, .int .i64 0] := by unfold cntV; rw [hok]; rfl
    have e2 : checkE l = 1 := by unfold checkE; rw [hok]; rfl
    rw [e1, hok] at HC
    rw [e2]
    clear e1 e2 hok hst
    go_enter Tryz.func115, Tryz.ntmps115
    go_wp2_with fail
    refine HC.out.mono ?_
    rintro e w2 ⟨rfl, hb⟩
    have HB := hid (hb.alloc (.cells #[.int .i64 0, .int .i64 0, .int .i64 0, .int .i64 0, .int .i64 0, .int .i64 0, .int .i64 0, .int .i64 0, .int .i64 0, .int .i64 0, .int .i64 0, .int .i64 0, .int .i64 0, .int .i64 0, .int .i64 0, .int .i64 0] 170))
    clear hb
    go_wp2
    go_returns
    exact ⟨rfl, HB.out⟩
  | true =>
    have e1 : cntV l = .agg #[.int .i64 (tal l 0 : Nat), .int .i64 (tal l 1 : Nat), .int .i64 (tal l 2 : Nat), .int .i64 (tal l 3 : Nat), .int .i64 (tal l 4 : Nat), .int .i64 (tal l 5 : Nat), .int .i64 (tal l 6 : Nat), .int .i64 (tal l 7 : Nat), .int .i64 (tal l 8 : Nat), .int .i64 (tal l 9 : Nat), .int .i64 (tal l 10 : Nat), .int .i64 (tal l 11 : Nat), .int .i64 (tal l 12 : Nat), .int .i64 (tal l 13 : Nat), .int .i64 (tal l 14 : Nat), .int .i64 (tal l 15 : Nat)] := by unfold cntV; rw [hok, if_pos rfl, talArr_eq]
    have e2 : checkE l = if codeB l then 0 else 3 := by unfold checkE; rw [hok]; rfl
    have h320 : l.length ≤ 320 := by
      have := hok
      unfold okLens at this
      exact of_decide_eq_true (Bool.and_eq_true_iff.1 this).1
    have HI := hid (fun W => isCode_any l h320 W)
    rw [e1, hok] at HC
    rw [e2]
    clear e1 e2 hok hst
    generalize codeB l = cb at *
    go_enter Tryz.func115, Tryz.ntmps115
    go_wp2_with fail
    refine HC.out.mono ?_
    rintro e w2 ⟨rfl, hb⟩
    have HB := hid (hb.alloc (.cells #[.int .i64 (tal l 0 : Nat), .int .i64 (tal l 1 : Nat), .int .i64 (tal l 2 : Nat), .int .i64 (tal l 3 : Nat), .int .i64 (tal l 4 : Nat), .int .i64 (tal l 5 : Nat), .int .i64 (tal l 6 : Nat), .int .i64 (tal l 7 : Nat), .int .i64 (tal l 8 : Nat), .int .i64 (tal l 9 : Nat), .int .i64 (tal l 10 : Nat), .int .i64 (tal l 11 : Nat), .int .i64 (tal l 12 : Nat), .int .i64 (tal l 13 : Nat), .int .i64 (tal l 14 : Nat), .int .i64 (tal l 15 : Nat)] 170))
    clear hb
    go_wp2_with fail
    refine (HI.out _).mono ?_
    rintro e w3 ⟨rfl, hb⟩
    have HB3 := hid (HB.out.trans hb)
    clear hb
    cases cb with
    | true =>
      go_wp2
      go_returns
      exact ⟨rfl, HB3.out⟩
    | false =>
      go_wp2
      go_returns
      exact ⟨rfl, HB3.out⟩
end Go.Proofs.YtkmbgkcpohchhaaGreatDoor
namespace Go.Proofs.YtkmbgkcpohchhaaGreatDoor
open Go.RowKit
set_option linter.unusedVariables false
def talS (l : List Int) : Nat → Nat
  | 0 => 0
  | k + 1 => talS l k + tal l k
theorem talS_snoc (l : List Int) (x : Nat) : ∀ k, talS (l ++ [(x : Int)]) k = talS l k + if 0 < x ∧ x < k then 1 else 0
  | 0 => by simp [talS]
  | k + 1 => by
    have h := talS_snoc l x k
    have h2 := tal_snoc l x k
    show talS _ k + tal _ k = talS l k + tal l k + _
    rw [h, h2]
    repeat' split
    all_goals omega
theorem kraftS_snoc (l : List Int) (x : Nat) : ∀ k, kraftS (l ++ [(x : Int)]) k = kraftS l k + if 0 < x ∧ x < k then 2 ^ (15 - x) else 0
  | 0 => by simp [kraftS]
  | k + 1 => by
    have h := kraftS_snoc l x k
    have h2 := tal_snoc l x k
    show kraftS _ k + tal _ k * 2 ^ (15 - k) = kraftS l k + tal l k * 2 ^ (15 - k) + _
    rw [h, h2]
    by_cases e : x = k
    · subst e
      by_cases h0 : 0 < x
      · rw [if_neg (by omega), if_pos ⟨rfl, h0⟩, if_pos ⟨h0, by omega⟩, Nat.add_mul, Nat.one_mul]; omega
      · rw [if_neg (by omega), if_neg (by omega), if_neg (by omega)]; omega
    · rw [if_neg (c := x = k ∧ 0 < k) (fun a => e a.1)]
      by_cases h0 : 0 < x ∧ x < k
      · rw [if_pos h0, if_pos ⟨h0.1, by omega⟩]; omega
      · rw [if_neg h0, if_neg (by omega)]; omega
theorem talS_zero (l : List Int) : ∀ k, talS l k = 0 → ∀ j, j < k → tal l j = 0
  | 0, _, j, h => absurd h (by omega)
  | k + 1, h0, j, h => by
    have h1 : talS l k + tal l k = 0 := h0
    by_cases e : j = k
    · subst e; omega
    · exact talS_zero l k (by omega) j (by omega)
structure ChkAt (p : List Int) (s n last : Nat) : Prop where
  sum : s = kraftS p 16
  num : n = talS p 16
  one : n = 1 → ∀ j, j < 16 → tal p j = if j = last then 1 else 0
theorem chk_nil : ChkAt [] 0 0 0 := by
  have hk : ∀ k, kraftS [] k = 0 := fun k => by
    induction k with
    | zero => rfl
    | succ k ih => show kraftS [] k + tal [] k * 2 ^ (15 - k) = 0; rw [ih, tal_nil, Nat.zero_mul]
  have hs : ∀ k, talS [] k = 0 := fun k => by
    induction k with
    | zero => rfl
    | succ k ih => show talS [] k + tal [] k = 0; rw [ih, tal_nil]
  exact ⟨(hk 16).symm, (hs 16).symm, fun h => absurd h (by omega)⟩
theorem chk_zero {p : List Int} {s n last : Nat} (h : ChkAt p s n last) : ChkAt (p ++ [0]) s n last := by
  have e : ((0 : Nat) : Int) = 0 := rfl
  have hs := kraftS_snoc p 0 16
  have hn := talS_snoc p 0 16
  rw [if_neg (by omega), Nat.add_zero, e] at hs hn
  refine ⟨h.sum.trans hs.symm, h.num.trans hn.symm, fun h1 j hj => ?_⟩
  have := tal_snoc p 0 j
  rw [if_neg (by omega), e] at this
  exact this.trans (h.one h1 j hj)
theorem chk_put {p : List Int} {s n last : Nat} (h : ChkAt p s n last) (x : Nat) (h0 : 0 < x) (hx : x < 16) : ChkAt (p ++ [(x : Int)]) (s + 2 ^ (15 - x)) (n + 1) x := by
  have hs := kraftS_snoc p x 16
  have hn := talS_snoc p x 16
  rw [if_pos ⟨h0, hx⟩] at hs hn
  refine ⟨(congrArg (fun z => z + 2 ^ (15 - x)) h.sum).trans hs.symm, (congrArg (fun z => z + 1) h.num).trans hn.symm, fun h1 j hj => ?_⟩
  have hz := talS_zero p 16 (by have := h.num; omega) j hj
  rw [tal_snoc, hz]
  by_cases e : x = j
  · subst e; rw [if_pos ⟨rfl, h0⟩, if_pos rfl]
  · rw [if_neg (fun a => e a.1), if_neg (fun a => e a.symm)]
theorem chk_code {l : List Int} {s n last : Nat} (h : ChkAt l s n last) : codeB l = (decide (n = 0) || (decide (n = 1 ∧ last = 1) || decide (s = 32768))) := by
  have hn := h.num
  simp only [talS] at hn
  have hz : zeroB l = decide (n = 0) := by
    unfold zeroB
    rw [decide_eq_decide]
    constructor
    · intro e
      injection e with e0 e; injection e with e1 e; injection e with e2 e; injection e with e3 e; injection e with e4 e; injection e with e5 e; injection e with e6 e; injection e with e7 e; injection e with e8 e; injection e with e9 e; injection e with e10 e; injection e with e11 e; injection e with e12 e; injection e with e13 e; injection e with e14 e; injection e with e15 e
      omega
    · intro e
      have a := talS_zero l 16 (by rw [← h.num]; exact e)
      rw [a 0 (by omega), a 1 (by omega), a 2 (by omega), a 3 (by omega), a 4 (by omega), a 5 (by omega), a 6 (by omega), a 7 (by omega), a 8 (by omega), a 9 (by omega), a 10 (by omega), a 11 (by omega), a 12 (by omega), a 13 (by omega), a 14 (by omega), a 15 (by omega)]
      rfl
  have ho : oneB l = decide (n = 1 ∧ last = 1) := by
    unfold oneB
    rw [decide_eq_decide]
    constructor
    · intro e
      injection e with e0 e; injection e with e1 e; injection e with e2 e; injection e with e3 e; injection e with e4 e; injection e with e5 e; injection e with e6 e; injection e with e7 e; injection e with e8 e; injection e with e9 e; injection e with e10 e; injection e with e11 e; injection e with e12 e; injection e with e13 e; injection e with e14 e; injection e with e15 e
      have n1 : n = 1 := by omega
      refine ⟨n1, ?_⟩
      have b := h.one n1 1 (by omega)
      by_cases c : last = 1
      · exact c
      · rw [if_neg (fun a => c a.symm)] at b; omega
    · rintro ⟨n1, rfl⟩
      have a := h.one n1
      rw [a 0 (by omega), a 1 (by omega), a 2 (by omega), a 3 (by omega), a 4 (by omega), a 5 (by omega), a 6 (by omega), a 7 (by omega), a 8 (by omega), a 9 (by omega), a 10 (by omega), a 11 (by omega), a 12 (by omega), a 13 (by omega), a 14 (by omega), a 15 (by omega)]
      rfl
  unfold codeB
  rw [hz, ho, h.sum]
end Go.Proofs.YtkmbgkcpohchhaaGreatDoor
