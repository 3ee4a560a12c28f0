/- huff.count (contract of the function), a number above 15. -/
import Derived.Test.YtacgnadhpgkcmaaDoorHufA0
namespace Go.Proofs.YtacgnadhpgkcmaaDoor
open Go.RowKit
set_option linter.unusedVariables false
set_option maxRecDepth 100000 in
set_option maxHeartbeats 4000000 in
theorem count_great (a : Option Addr) (len cap : Nat) (hlen : len ≤ 320) (l : List Int) (hll : Hid (l.length = len)) (j : Nat) (hj : j < l.length) (hall : ∀ i (h : i < l.length), i < j → lenB l[i] = true) (hbad : 15 < l[j]) (w : World) (hst : ZsAt w a l) :
    Calls Tryd.prog 54 #[.slice a len cap] w fun e w' => e = .returned (.tuple #[.agg #[.int .i64 0, .int .i64 0, .int .i64 0, .int .i64 0, .int .i64 0, .int .i64 0, .int .i64 0, .int .i64 0, .int .i64 0, .int .i64 0, .int .i64 0, .int .i64 0, .int .i64 0, .int .i64 0, .int .i64 0, .int .i64 0], .bool false]) ∧ Bw w w' := by
  have HALL := hid hall
  have HBAD := hid hbad

  have hjn : j < len := by rw [← hll.out]; exact hj
  clear hall hbad
  have hi : ¬ (320 : Int) < len := by omega
  have hx1 : Has (w.alloc (.cells #[.int .i64 0, .int .i64 0, .int .i64 0, .int .i64 0, .int .i64 0, .int .i64 0, .int .i64 0, .int .i64 0, .int .i64 0, .int .i64 0, .int .i64 0, .int .i64 0, .int .i64 0, .int .i64 0, .int .i64 0, .int .i64 0] 106)) w.heap.size 106 #[.int .i64 0, .int .i64 0, .int .i64 0, .int .i64 0, .int .i64 0, .int .i64 0, .int .i64 0, .int .i64 0, .int .i64 0, .int .i64 0, .int .i64 0, .int .i64 0, .int .i64 0, .int .i64 0, .int .i64 0, .int .i64 0] := Has.new w _ _
  have hx2 : Has ((w.alloc (.cells #[.int .i64 0, .int .i64 0, .int .i64 0, .int .i64 0, .int .i64 0, .int .i64 0, .int .i64 0, .int .i64 0, .int .i64 0, .int .i64 0, .int .i64 0, .int .i64 0, .int .i64 0, .int .i64 0, .int .i64 0, .int .i64 0] 106)).alloc (.cells #[.int .i64 0, .int .i64 0, .int .i64 0, .int .i64 0, .int .i64 0, .int .i64 0, .int .i64 0, .int .i64 0, .int .i64 0, .int .i64 0, .int .i64 0, .int .i64 0, .int .i64 0, .int .i64 0, .int .i64 0, .int .i64 0] 106)) (w.heap.size + 1) 106 #[.int .i64 0, .int .i64 0, .int .i64 0, .int .i64 0, .int .i64 0, .int .i64 0, .int .i64 0, .int .i64 0, .int .i64 0, .int .i64 0, .int .i64 0, .int .i64 0, .int .i64 0, .int .i64 0, .int .i64 0, .int .i64 0] := by
    have h := Has.new (w.alloc (.cells #[.int .i64 0, .int .i64 0, .int .i64 0, .int .i64 0, .int .i64 0, .int .i64 0, .int .i64 0, .int .i64 0, .int .i64 0, .int .i64 0, .int .i64 0, .int .i64 0, .int .i64 0, .int .i64 0, .int .i64 0, .int .i64 0] 106)) 106 #[.int .i64 0, .int .i64 0, .int .i64 0, .int .i64 0, .int .i64 0, .int .i64 0, .int .i64 0, .int .i64 0, .int .i64 0, .int .i64 0, .int .i64 0, .int .i64 0, .int .i64 0, .int .i64 0, .int .i64 0, .int .i64 0]
    simpa using h
  have HX2 := hid hx2
  have HXR := hid (hx1.alloc (.cells #[.int .i64 0, .int .i64 0, .int .i64 0, .int .i64 0, .int .i64 0, .int .i64 0, .int .i64 0, .int .i64 0, .int .i64 0, .int .i64 0, .int .i64 0, .int .i64 0, .int .i64 0, .int .i64 0, .int .i64 0, .int .i64 0] 106))
  have HW2 := hid (((Bw.refl w).alloc (.cells #[.int .i64 0, .int .i64 0, .int .i64 0, .int .i64 0, .int .i64 0, .int .i64 0, .int .i64 0, .int .i64 0, .int .i64 0, .int .i64 0, .int .i64 0, .int .i64 0, .int .i64 0, .int .i64 0, .int .i64 0, .int .i64 0] 106)).alloc (.cells #[.int .i64 0, .int .i64 0, .int .i64 0, .int .i64 0, .int .i64 0, .int .i64 0, .int .i64 0, .int .i64 0, .int .i64 0, .int .i64 0, .int .i64 0, .int .i64 0, .int .i64 0, .int .i64 0, .int .i64 0, .int .i64 0] 106))
  have HST := hid hst
  clear hx1 hx2 hst
  go_enter Tryd.func54, Tryd.ntmps54
  go_wp2_with fail
  obtain ⟨cb, hcb⟩ : ∃ cb, w.heap.size + 1 = cb := ⟨_, rfl⟩
  rw [hcb] at HX2 ⊢
  have HCB := hid hcb
  clear hcb
  generalize (w.alloc (.cells #[.int .i64 0, .int .i64 0, .int .i64 0, .int .i64 0, .int .i64 0, .int .i64 0, .int .i64 0, .int .i64 0, .int .i64 0, .int .i64 0, .int .i64 0, .int .i64 0, .int .i64 0, .int .i64 0, .int .i64 0, .int .i64 0] 106)).alloc (.cells #[.int .i64 0, .int .i64 0, .int .i64 0, .int .i64 0, .int .i64 0, .int .i64 0, .int .i64 0, .int .i64 0, .int .i64 0, .int .i64 0, .int .i64 0, .int .i64 0, .int .i64 0, .int .i64 0, .int .i64 0, .int .i64 0] 106) = W2 at *
  go_loopw [13] (fun i wr => ∃ k : Nat, k ≤ j ∧ i = .int .i64 k ∧ Has wr w.heap.size 106 #[.int .i64 0, .int .i64 0, .int .i64 0, .int .i64 0, .int .i64 0, .int .i64 0, .int .i64 0, .int .i64 0, .int .i64 0, .int .i64 0, .int .i64 0, .int .i64 0, .int .i64 0, .int .i64 0, .int .i64 0, .int .i64 0] ∧ Has wr cb 106 (talArr (l.take k)) ∧ Bw w wr) (fun i _ => len - (intOf i).toNat)
  case atStart => exact ⟨0, Nat.zero_le _, rfl, HXR.out, by rw [List.take_zero, talArr_nil]; exact HX2.out, HW2.out⟩
  case round =>
    obtain ⟨k, hk, rfl, hres, hh, hbw⟩ := hrel
    have HRES := hid hres
    have HH := hid hh
    have HBW := hid hbw
    by_cases hlt : k < j
    · have hlti : (k : Int) < len := by omega
      have hkl : k < l.length := by rw [hll.out]; omega
      have hx := HALL.out k hkl (by omega)
      obtain ⟨b, off, rfl, hbl, q0⟩ := HST.out k hkl
      have hts : l.take (k + 1) = l.take k ++ [l[k]] := List.take_succ_eq_append_getElem hkl
      have HTS := hid hts
      generalize l[k] = x at *
      have x0 : wr.cell? ⟨b, off + k, none⟩ = some (.int .i64 x) := (World.cell?_of_block (hbw.block b hbl)).trans q0
      obtain ⟨hx1, hx2⟩ := of_decide_eq_true hx
      clear hts hkl hres hh hbw q0 hx
      have hor : x = 0 ∨ (0 < x ∧ x ≤ 15) := by omega
      rcases hor with rfl | ⟨hp0, hp15⟩
      · have HT0 := hid (talArr_zero (l.take k))
        go_wp2
        go_roundw
        case rel => exact ⟨k + 1, by omega, by go_num, HRES.out, by rw [HTS.out, HT0.out]; exact HH.out, HBW.out⟩
        case measure => simp [intOf]; omega
      · obtain ⟨m, rfl⟩ := Int.eq_ofNat_of_zero_le (Int.le_of_lt hp0)
        have hm0 : 0 < m := by omega
        have hm15 : m ≤ 15 := by omega
        have hti := tal_le (l.take k) m
        have htl : (l.take k).length ≤ k := List.length_take_le _ _
        have cm : wr.cell? ⟨cb, m, none⟩ = some (.int .i64 (tal (l.take k) m : Nat)) := (HH.out.cell m).trans (talArr_get _ m (by omega))
        have cf := HH.out.frozen m
        have HPT := hid (HH.out.put m (.int .i64 (tal (l.take k) m + 1 : Nat)))
        rw [talArr_put (l.take k) m hm0 (by omega), ← HTS.out] at HPT
        have d1 : decide ((m : Int) < 0) = false := decide_eq_false (by omega)
        have d2 : decide (15 < (m : Int)) = false := decide_eq_false (by omega)
        have hr9 : (m : Int) < 16 := by omega
        generalize tal (l.take k) m = tm at *
        go_wp2
        have hcb2 := HCB.out
        exact ⟨⟨k + 1, by omega, by go_num, by simpa using (HRES.out.far (p := ⟨cb, m, none⟩) (show w.heap.size ≠ cb by omega) _), by simpa using HPT.out, Below.setCell HBW.out (p := ⟨cb, m, none⟩) (show w.heap.size ≤ cb by omega) _⟩, by simp [intOf]; omega⟩
    · obtain rfl : k = j := by omega
      have hlti : (k : Int) < len := by omega
      obtain ⟨b, off, rfl, hbl, q0⟩ := HST.out k hj
      generalize l[k] = x at *
      have x0 : wr.cell? ⟨b, off + k, none⟩ = some (.int .i64 x) := (World.cell?_of_block (hbw.block b hbl)).trans q0
      have hx := HBAD.out
      have d1 : decide (x < 0) = false := decide_eq_false (by omega)
      have d2 : decide (15 < x) = true := decide_eq_true hx
      clear hres hh hbw q0 hx HBAD
      have HPX := hid (has_all HRES.out [.int .i64 0, .int .i64 0, .int .i64 0, .int .i64 0, .int .i64 0, .int .i64 0, .int .i64 0, .int .i64 0, .int .i64 0, .int .i64 0, .int .i64 0, .int .i64 0, .int .i64 0, .int .i64 0, .int .i64 0, .int .i64 0] rfl)
      have HPB := hid (bw_setCells (Nat.le_refl w.heap.size) [.int .i64 0, .int .i64 0, .int .i64 0, .int .i64 0, .int .i64 0, .int .i64 0, .int .i64 0, .int .i64 0, .int .i64 0, .int .i64 0, .int .i64 0, .int .i64 0, .int .i64 0, .int .i64 0, .int .i64 0, .int .i64 0] 0 wr HBW.out)
      simp only [World.setCells, Nat.zero_add, Nat.reduceAdd] at HPX HPB
      have r0 : wr.cell? ⟨w.heap.size, 0, none⟩ = some (.int .i64 0) := HRES.out.cell 0
      have r1 : wr.cell? ⟨w.heap.size, 1, none⟩ = some (.int .i64 0) := HRES.out.cell 1
      have r2 : wr.cell? ⟨w.heap.size, 2, none⟩ = some (.int .i64 0) := HRES.out.cell 2
      have r3 : wr.cell? ⟨w.heap.size, 3, none⟩ = some (.int .i64 0) := HRES.out.cell 3
      have r4 : wr.cell? ⟨w.heap.size, 4, none⟩ = some (.int .i64 0) := HRES.out.cell 4
      have r5 : wr.cell? ⟨w.heap.size, 5, none⟩ = some (.int .i64 0) := HRES.out.cell 5
      have r6 : wr.cell? ⟨w.heap.size, 6, none⟩ = some (.int .i64 0) := HRES.out.cell 6
      have r7 : wr.cell? ⟨w.heap.size, 7, none⟩ = some (.int .i64 0) := HRES.out.cell 7
      have r8 : wr.cell? ⟨w.heap.size, 8, none⟩ = some (.int .i64 0) := HRES.out.cell 8
      have r9 : wr.cell? ⟨w.heap.size, 9, none⟩ = some (.int .i64 0) := HRES.out.cell 9
      have r10 : wr.cell? ⟨w.heap.size, 10, none⟩ = some (.int .i64 0) := HRES.out.cell 10
      have r11 : wr.cell? ⟨w.heap.size, 11, none⟩ = some (.int .i64 0) := HRES.out.cell 11
      have r12 : wr.cell? ⟨w.heap.size, 12, none⟩ = some (.int .i64 0) := HRES.out.cell 12
      have r13 : wr.cell? ⟨w.heap.size, 13, none⟩ = some (.int .i64 0) := HRES.out.cell 13
      have r14 : wr.cell? ⟨w.heap.size, 14, none⟩ = some (.int .i64 0) := HRES.out.cell 14
      have r15 : wr.cell? ⟨w.heap.size, 15, none⟩ = some (.int .i64 0) := HRES.out.cell 15
      have rf0 := HRES.out.frozen 0
      have rf1 := HRES.out.frozen 1
      have rf2 := HRES.out.frozen 2
      have rf3 := HRES.out.frozen 3
      have rf4 := HRES.out.frozen 4
      have rf5 := HRES.out.frozen 5
      have rf6 := HRES.out.frozen 6
      have rf7 := HRES.out.frozen 7
      have rf8 := HRES.out.frozen 8
      have rf9 := HRES.out.frozen 9
      have rf10 := HRES.out.frozen 10
      have rf11 := HRES.out.frozen 11
      have rf12 := HRES.out.frozen 12
      have rf13 := HRES.out.frozen 13
      have rf14 := HRES.out.frozen 14
      have rf15 := HRES.out.frozen 15
      go_wp2
      generalize World.setCell (World.setCell (World.setCell (World.setCell (World.setCell (World.setCell (World.setCell (World.setCell (World.setCell (World.setCell (World.setCell (World.setCell (World.setCell (World.setCell (World.setCell (World.setCell wr _ _) _ _) _ _) _ _) _ _) _ _) _ _) _ _) _ _) _ _) _ _) _ _) _ _) _ _) _ _) _ _ = W3 at *
      have p0 : W3.cell? ⟨w.heap.size, 0, none⟩ = some (.int .i64 0) := HPX.out.cell 0
      have p1 : W3.cell? ⟨w.heap.size, 1, none⟩ = some (.int .i64 0) := HPX.out.cell 1
      have p2 : W3.cell? ⟨w.heap.size, 2, none⟩ = some (.int .i64 0) := HPX.out.cell 2
      have p3 : W3.cell? ⟨w.heap.size, 3, none⟩ = some (.int .i64 0) := HPX.out.cell 3
      have p4 : W3.cell? ⟨w.heap.size, 4, none⟩ = some (.int .i64 0) := HPX.out.cell 4
      have p5 : W3.cell? ⟨w.heap.size, 5, none⟩ = some (.int .i64 0) := HPX.out.cell 5
      have p6 : W3.cell? ⟨w.heap.size, 6, none⟩ = some (.int .i64 0) := HPX.out.cell 6
      have p7 : W3.cell? ⟨w.heap.size, 7, none⟩ = some (.int .i64 0) := HPX.out.cell 7
      have p8 : W3.cell? ⟨w.heap.size, 8, none⟩ = some (.int .i64 0) := HPX.out.cell 8
      have p9 : W3.cell? ⟨w.heap.size, 9, none⟩ = some (.int .i64 0) := HPX.out.cell 9
      have p10 : W3.cell? ⟨w.heap.size, 10, none⟩ = some (.int .i64 0) := HPX.out.cell 10
      have p11 : W3.cell? ⟨w.heap.size, 11, none⟩ = some (.int .i64 0) := HPX.out.cell 11
      have p12 : W3.cell? ⟨w.heap.size, 12, none⟩ = some (.int .i64 0) := HPX.out.cell 12
      have p13 : W3.cell? ⟨w.heap.size, 13, none⟩ = some (.int .i64 0) := HPX.out.cell 13
      have p14 : W3.cell? ⟨w.heap.size, 14, none⟩ = some (.int .i64 0) := HPX.out.cell 14
      have p15 : W3.cell? ⟨w.heap.size, 15, none⟩ = some (.int .i64 0) := HPX.out.cell 15
      clear HPX
      try simp only [Exit.inBlock, Exit.then]
      refine bodyPost_ret (by simp [results, Tryd.results54, go_sem, p0, p1, p2, p3, p4, p5, p6, p7, p8, p9, p10, p11, p12, p13, p14, p15]; try rfl) rfl ?_
      exact ⟨rfl, HPB.out⟩
end Go.Proofs.YtacgnadhpgkcmaaDoor
