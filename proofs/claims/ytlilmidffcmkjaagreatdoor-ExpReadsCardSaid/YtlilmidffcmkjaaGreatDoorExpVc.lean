/- What an expression is worth (contract of the function). -/
import Derived.Test.YtlilmidffcmkjaaGreatDoorExpVb
namespace Go.Proofs.YtlilmidffcmkjaaGreatDoor
open Go.RowKit
set_option linter.unusedVariables false
set_option linter.unusedSimpArgs false
theorem valInfo : (Tryz.prog.info? 73).map (fun i => (i.zero, i.size, i.bytes)) = some (some (.agg #[.bool false, .int .u64 0]), 2, 16) := by kernel_rfl
theorem make_vals (N : Nat) (hN : N ≤ 1000) (w : World) : (Instr.makeSlice 57 (.int .i64 N) (.int .i64 N)).run Tryz.prog w = .ok (.slice (some ⟨w.heap.size, 0, none⟩) N N) (w.alloc (.cells (madeCells #[.bool false, .int .u64 0] (N * 2)) 73)) := by
  obtain ⟨i0, hinf, hz0, hz1, hz2⟩ := info_parts valInfo
  have := run_makeSlice (P := Tryz.prog) (w := w) 57 73 i0 (.agg #[.bool false, .int .u64 0]) Tryz.underlying57 hinf hz0 .i64 .i64 N N (by omega) (by omega) (by rw [hz1]; simp; omega) (by rw [hz2]; omega) (by omega)
  rw [this, hz1]
  simp only [Int.toNat_natCast]
  rfl
theorem made_val {N j : Nat} (hj : j < N) : (madeCells #[.bool false, .int .u64 0] (N * 2))[j * 2]? = some (.bool false) ∧ (madeCells #[.bool false, .int .u64 0] (N * 2))[j * 2 + 1]? = some (.int .u64 0) := by
  have h0 : j * 2 < N * 2 := by omega
  have h1 : j * 2 + 1 < N * 2 := by omega
  have m0 : j * 2 % 2 = 0 := by omega
  have m1 : (j * 2 + 1) % 2 = 1 := by omega
  unfold madeCells
  constructor
  · rw [Array.getElem?_map, Array.getElem?_eq_getElem (by simpa using h0)]
    simp [m0]
  · rw [Array.getElem?_map, Array.getElem?_eq_getElem (by simpa using h1)]
    simp [m1]
set_option maxRecDepth 100000 in
set_option maxHeartbeats 4000000 in
theorem eval_any (a : Option Addr) (len cap : Nat) (hlen : len ≤ 9223372036854775807) (l : List ExpR) (hll : Hid (l.length = len)) (i : Int) (na : Option Addr) (nlen ncap : Nat) (hnl : nlen ≤ 9223372036854775807) (names : List BindR) (hnn : Hid (names.length = nlen)) (w : World) (hst : ExpAt w a l) (hbn : BndAt w na names) (hS : SgnAt w) :
    Calls Tryz.prog 11 #[.slice a len cap, .int .i64 i, .slice na nlen ncap] w fun e w' => e = .returned (.tuple #[.int .u64 ((evalX l i names).1 : Nat), .int .i64 (evalX l i names).2]) ∧ Bw w w' := by
  have HC := hid (checkIndex_any a len cap hlen l hll i w hst hS)
  have HI := hid (show evalX l i names = if idxE l i = 0 then wrt l names i.toNat else (0, idxE l i) from rfl)
  have HX := hid (show idxE l i = if checkB l then (if 0 ≤ i ∧ i < l.length then 0 else 1) else 9 from rfl)
  generalize hid0 : idxE l i = er at *
  by_cases d : er = 0
  · subst d
    have hB : checkB l = true := by
      cases h : checkB l with
      | true => rfl
      | false => have := HX.out; rw [h] at this; cases this
    have hr : 0 ≤ i ∧ i < l.length := by
      have := HX.out
      rw [if_pos hB] at this
      by_cases h : 0 ≤ i ∧ i < l.length
      · exact h
      · rw [if_neg h] at this; cases this
    obtain ⟨i, rfl⟩ := Int.eq_ofNat_of_zero_le hr.1
    have hil : i < l.length := by omega
    have h4 : l.length ≤ 400 := by
      unfold checkB at hB
      rw [Bool.and_eq_true, decide_eq_true_eq] at hB
      exact hB.1
    have HI2 := hid (show evalX l (i : Nat) names = wrt l names i from HI.out.trans (if_pos rfl))
    have HST := hid hst
    have HBN := hid hbn
    have HV := hid (fun w0 (hb : Bw w w0) g vb W hW => value_any w0 g vb a len cap na nlen ncap (i + 1) l names hB hlen hll (hst.below hb) hnl hnn (hbn.below hb) (by omega) (i + 1) i (by omega) (by omega) W hW)
    have hmk := fun (W : World) => make_vals (i + 1) (by omega) W
    have ci : ((i + 1 : Nat) : Int) = (i : Int) + 1 := by omega
    rw [ci] at hmk
    clear HI HX hid0 hB hr hst hbn hS
    go_enter Tryz.func11, Tryz.ntmps11
    go_wp2_with fail
    refine HC.out.mono ?_
    rintro e w2 ⟨rfl, hb⟩
    have HB := hid hb
    clear hb
    go_wp2_with fail
    have HE := hid (show EvS w2 ((w2.alloc (.cells (madeCells #[.bool false, .int .u64 0] ((i + 1) * 2)) 73)).alloc (.cells #[.slice a len cap, .slice na nlen ncap, .slice (some ⟨w2.heap.size, 0, none⟩) (i + 1) (i + 1)] 59)) (w2.heap.size + 1) w2.heap.size a len cap na nlen ncap (i + 1) l names from by
      refine ⟨?_, ⟨_, (Has.new w2 _ _).alloc _, fun j hj => ⟨false, 0, (made_val hj).1, (made_val hj).2, fun h => by cases h⟩⟩, ((Bw.refl w2).alloc _).alloc _, by omega, by omega, by omega⟩
      have := Has.new (w2.alloc (.cells (madeCells #[.bool false, .int .u64 0] ((i + 1) * 2)) 73)) 59 #[.slice a len cap, .slice na nlen ncap, .slice (some ⟨w2.heap.size, 0, none⟩) (i + 1) (i + 1)]
      simpa using this)
    refine (HV.out w2 HB.out _ _ _ HE.out).mono ?_
    rintro e w3 ⟨rfl, hs3, hk3⟩
    have HB3 := hid (HB.out.trans hs3.bw)
    clear hs3 hk3
    go_wp2
    go_returns
    exact ⟨by rw [HI2.out]; rfl, HB3.out⟩
  · have td : (er != 0) = true := by simpa using d
    have HI2 := hid (HI.out.trans (if_neg d))
    clear HI HX hid0 hst hbn hS
    go_enter Tryz.func11, Tryz.ntmps11
    go_wp2_with fail
    refine HC.out.mono ?_
    rintro e w2 ⟨rfl, hb⟩
    have HB := hid hb
    clear hb
    go_wp2
    go_returns
    exact ⟨by rw [HI2.out]; rfl, HB.out⟩
end Go.Proofs.YtlilmidffcmkjaaGreatDoor
