/- What an expression is worth, as the document says it (contract of the function). -/
import Derived.Test.YtlilmidffcmkjaaDoorExpY
import Derived.Test.YtlilmidffcmkjaaDoorExpL
import Derived.Test.YtlilmidffcmkjaaDoorExpVb
namespace Go.Proofs.YtlilmidffcmkjaaDoor
open Go.RowKit
set_option linter.unusedVariables false
set_option linter.unusedSimpArgs false
theorem u64Info : (Tryd.prog.info? 32).map (fun i => (i.zero, i.size, i.bytes)) = some (some (.int .u64 0), 1, 8) := by kernel_rfl
theorem errInfo : (Tryd.prog.info? 23).map (fun i => (i.zero, i.size, i.bytes)) = some (some (.int .i64 0), 1, 8) := by kernel_rfl
theorem make_u64 (N : Nat) (hN : N ≤ 1000) (w : World) : (Instr.makeSlice 59 (.int .i64 N) (.int .i64 N)).run Tryd.prog w = .ok (.slice (some ⟨w.heap.size, 0, none⟩) N N) (w.alloc (.cells (madeCells #[.int .u64 0] N) 32)) := by
  obtain ⟨i0, hinf, hz0, hz1, hz2⟩ := info_parts u64Info
  have := run_makeSlice (P := Tryd.prog) (w := w) 59 32 i0 (.int .u64 0) Tryd.underlying59 hinf hz0 .i64 .i64 N N (by omega) (by omega) (by rw [hz1]; simp; omega) (by rw [hz2]; omega) (by omega)
  rw [this, hz1]
  simp only [Int.toNat_natCast, Nat.mul_one]
  rfl
theorem make_err (N : Nat) (hN : N ≤ 1000) (w : World) : (Instr.makeSlice 60 (.int .i64 N) (.int .i64 N)).run Tryd.prog w = .ok (.slice (some ⟨w.heap.size, 0, none⟩) N N) (w.alloc (.cells (madeCells #[.int .i64 0] N) 23)) := by
  obtain ⟨i0, hinf, hz0, hz1, hz2⟩ := info_parts errInfo
  have := run_makeSlice (P := Tryd.prog) (w := w) 60 23 i0 (.int .i64 0) Tryd.underlying60 hinf hz0 .i64 .i64 N N (by omega) (by omega) (by rw [hz1]; simp; omega) (by rw [hz2]; omega) (by omega)
  rw [this, hz1]
  simp only [Int.toNat_natCast, Nat.mul_one]
  rfl
/-- Two rows, the first k of which hold values and errors. -/
structure TwoAt (w : World) (va ea N : Nat) (l : List ExpR) (names : List BindR) (k : Nat) : Prop where
  tab : TabAt w va ea N l names k
  v : ∃ cs : Array Value, cs.size = N ∧ Has w va 32 cs
  e : ∃ cs : Array Value, cs.size = N ∧ Has w ea 23 cs
  ne : va ≠ ea
theorem TwoAt.later {w w' : World} {va ea N : Nat} {l : List ExpR} {names : List BindR} {k : Nat} (h : TwoAt w va ea N l names k) (hb : Bw w w') : TwoAt w' va ea N l names k := by
  obtain ⟨cs, hz, hc⟩ := h.v
  obtain ⟨es, hy, he⟩ := h.e
  exact ⟨fun j hj => ⟨(Below.cell hb (p := ⟨va, j, none⟩) hc.lt).trans (h.tab j hj).1, (Below.cell hb (p := ⟨ea, j, none⟩) he.lt).trans (h.tab j hj).2⟩, ⟨cs, hz, hb.has hc⟩, ⟨es, hy, hb.has he⟩, h.ne⟩
theorem TwoAt.put {w : World} {va ea N : Nat} {l : List ExpR} {names : List BindR} {k : Nat} (h : TwoAt w va ea N l names k) (hk : k < N) :
    TwoAt ((w.setCell ⟨va, k, none⟩ (.int .u64 ((wrt l names k).1 : Nat))).setCell ⟨ea, k, none⟩ (.int .i64 (wrt l names k).2)) va ea N l names (k + 1) := by
  obtain ⟨cs, hz, hc⟩ := h.v
  obtain ⟨es, hy, he⟩ := h.e
  have hv2 := (hc.put k (.int .u64 ((wrt l names k).1 : Nat))).far (p := ⟨ea, k, none⟩) h.ne (.int .i64 (wrt l names k).2)
  have he2 := (he.far (p := ⟨va, k, none⟩) (Ne.symm h.ne) (.int .u64 ((wrt l names k).1 : Nat))).put k (.int .i64 (wrt l names k).2)
  refine ⟨fun j hj => ?_, ⟨_, by simpa using hz, hv2⟩, ⟨_, by simpa using hy, he2⟩, h.ne⟩
  rw [hv2.cell j, he2.cell j]
  by_cases e : j = k
  · subst e
    rw [Array.getElem?_setIfInBounds_self_of_lt (by omega), Array.getElem?_setIfInBounds_self_of_lt (by omega)]
    exact ⟨rfl, rfl⟩
  · rw [Array.getElem?_setIfInBounds_ne (by omega), Array.getElem?_setIfInBounds_ne (by omega), ← hc.cell j, ← he.cell j]
    exact h.tab j (by omega)
set_option maxRecDepth 100000 in
set_option maxHeartbeats 4000000 in
theorem reval_any (a : Option Addr) (len cap : Nat) (hlen : len ≤ 9223372036854775807) (l : List ExpR) (hll : Hid (l.length = len)) (i : Int) (na : Option Addr) (nlen ncap : Nat) (hnl : nlen ≤ 9223372036854775807) (names : List BindR) (hnn : Hid (names.length = nlen)) (w : World) (hst : ExpAt w a l) (hbn : BndAt w na names) :
    Calls Tryd.prog 15 #[.slice a len cap, .int .i64 i, .slice na nlen ncap] w fun e w' => e = .returned (.tuple #[.int .u64 ((evalX l i names).1 : Nat), .int .i64 (evalX l i names).2]) ∧ Bw w w' := by
  have HC := hid (rcheck_any a len cap hlen l hll w hst)
  have HI := hid (show evalX l i names = if idxE l i = 0 then wrt l names i.toNat else (0, idxE l i) from rfl)
  have HX := hid (show idxE l i = if checkB l then (if 0 ≤ i ∧ i < l.length then 0 else 1) else 9 from rfl)
  have HK := hid (show checkX l = if checkB l then 0 else 9 from rfl)
  have HST := hid hst
  have HBN := hid hbn
  clear hst hbn
  cases hB : checkB l with
  | false =>
    rw [hB] at HX HK
    have hk : checkX l = 9 := HK.out
    have hx : idxE l i = 9 := HX.out
    have HI2 := hid (show evalX l i names = (0, 9) from by rw [HI.out, hx]; rfl)
    rw [hk] at HC
    clear HI HX HK hx hk hB
    go_enter Tryd.func15, Tryd.ntmps15
    go_wp2_with fail
    refine HC.out.mono ?_
    rintro e w2 ⟨rfl, hb⟩
    have HB := hid hb
    clear hb
    go_wp2
    go_returns
    exact ⟨by rw [HI2.out]; rfl, HB.out⟩
  | true =>
    have HCB := hid hB
    rw [hB] at HX HK
    have hk : checkX l = 0 := HK.out
    have HX2 := hid (show idxE l i = if 0 ≤ i ∧ i < l.length then 0 else 1 from HX.out)
    rw [hll.out] at HX2
    rw [hk] at HC
    clear HX HK hk hB
    by_cases h0 : 0 ≤ i
    · by_cases h1 : i < len
      · obtain ⟨i, rfl⟩ := Int.eq_ofNat_of_zero_le h0
        have HX3 := hid (HX2.out.trans (if_pos ⟨h0, h1⟩))
        have HI2 := hid (show evalX l (i : Nat) names = wrt l names i from HI.out.trans (if_pos HX3.out))
        have h0n : ¬ (i : Int) < 0 := by omega
        have h1n : ¬ (len : Int) ≤ i := by omega
        have hil : i < len := by omega
        have h1m : ¬ len ≤ i := by omega
        have d0 : decide ((i : Int) < 0) = false := decide_eq_false h0n
        have d1 : decide (len ≤ i) = false := decide_eq_false h1m
        have h4 : l.length ≤ 400 := by
          have hB := HCB.out
          unfold checkB at hB
          rw [Bool.and_eq_true, decide_eq_true_eq] at hB
          exact hB.1
        have h44 : len ≤ 400 := by rw [← hll.out]; exact h4
        have hmv := fun (W : World) => make_u64 (i + 1) (by omega) W
        have hme := fun (W : World) => make_err (i + 1) (by omega) W
        have ci : ((i + 1 : Nat) : Int) = (i : Int) + 1 := by omega
        rw [ci] at hmv hme
        clear HX2 HI h4
        go_enter Tryd.func15, Tryd.ntmps15
        go_wp2_with fail
        refine HC.out.mono ?_
        rintro e w2 ⟨rfl, hb⟩
        have HB := hid hb
        clear hb
        go_wp2
        have HT0 := hid (show TwoAt ((w2.alloc (.cells (madeCells #[.int .u64 0] (i + 1)) 32)).alloc (.cells (madeCells #[.int .i64 0] (i + 1)) 23)) w2.heap.size (w2.heap.size + 1) (i + 1) l names 0 from by
          refine ⟨fun j hj => by omega, ⟨_, by rw [size_madeCells], (Has.new w2 _ _).alloc _⟩, ⟨madeCells #[.int .i64 0] (i + 1), by rw [size_madeCells], ?_⟩, by omega⟩
          have := Has.new (w2.alloc (.cells (madeCells #[.int .u64 0] (i + 1)) 32)) 23 (madeCells #[.int .i64 0] (i + 1))
          simpa using this)
        have HB0 := hid (show Bw w ((w2.alloc (.cells (madeCells #[.int .u64 0] (i + 1)) 32)).alloc (.cells (madeCells #[.int .i64 0] (i + 1)) 23)) from (HB.out.alloc _).alloc _)
        have HSZ := hid (show w.heap.size ≤ w2.heap.size from HB.out.size)
        go_loopw [10] (fun x wr => ∃ k : Nat, k ≤ i + 1 ∧ x = .int .i64 k ∧ TwoAt wr w2.heap.size (w2.heap.size + 1) (i + 1) l names k ∧ Bw w wr) (fun x _ => i + 1 - (intOf x).toNat)
        case atStart => exact ⟨0, Nat.zero_le _, rfl, HT0.out, HB0.out⟩
        case round =>
          rename World => wr
          obtain ⟨k, hk, rfl, ht, hb⟩ := hrel
          have HT := hid ht
          have HBR := hid hb
          by_cases hlt : k < i + 1
          · have hkl : k < l.length := by rw [hll.out]; omega
            have hk1 : (k : Int) ≤ i := by omega
            have hk2 : (k : Int) < len := by omega
            have hk3 : (k : Int) < (i : Int) + 1 := by omega
            obtain ⟨b, off, rfl, hbb, c0, c1, c2, c3, c4, hv⟩ := HST.out.below hb k hkl
            have HVV := hid (rvalue_any w2.heap.size (w2.heap.size + 1) (i + 1) na nlen ncap l names HCB.out hnl hnn k hkl hv (by omega) wr (by obtain ⟨cs, _, hc⟩ := ht.v; exact hc.lt) (by obtain ⟨cs, _, hc⟩ := ht.e; exact hc.lt) ht.tab (HBN.out.below hb))
            obtain ⟨⟨o, nm, n, x, y⟩, hx⟩ : ∃ q, l[k] = q := ⟨_, rfl⟩
            rw [hx] at c0 c1 c2 c3 c4 HVV
            simp only at c0 c1 c2 c3 c4 HVV
            clear hv hbb hx ht hb
            go_wp2_with fail
            refine HVV.out.mono ?_
            rintro e w3 ⟨rfl, hb3⟩
            have ht3 := HT.out.later hb3
            have HB3 := hid (HBR.out.trans hb3)
            obtain ⟨cs, hz, hc⟩ := ht3.v
            obtain ⟨es, hy, he⟩ := ht3.e
            have p0 : w3.cell? ⟨w2.heap.size, k, none⟩ = some cs[k] := by rw [hc.cell k, Array.getElem?_eq_getElem (by omega)]
            have p1 : w3.cell? ⟨w2.heap.size + 1, k, none⟩ = some es[k] := by rw [he.cell k, Array.getElem?_eq_getElem (by omega)]
            have f0 := hc.frozen k
            have f1 := he.frozen k
            have p2 : (w3.setCell ⟨w2.heap.size, k, none⟩ (.int .u64 ((wrt l names k).1 : Nat))).cell? ⟨w2.heap.size + 1, k, none⟩ = some es[k] := by rw [(he.far (p := ⟨w2.heap.size, k, none⟩) (by simp) _).cell k, Array.getElem?_eq_getElem (by omega)]
            have f2 : (w3.setCell ⟨w2.heap.size, k, none⟩ (.int .u64 ((wrt l names k).1 : Nat))).frozen? ⟨w2.heap.size + 1, k, none⟩ = false := (he.far (p := ⟨w2.heap.size, k, none⟩) (by simp) _).frozen k
            have HP := hid (ht3.put hlt)
            have HBP := hid (Below.setCell (Below.setCell HB3.out (p := ⟨w2.heap.size, k, none⟩) HSZ.out (.int .u64 ((wrt l names k).1 : Nat))) (p := ⟨w2.heap.size + 1, k, none⟩) (show w.heap.size ≤ w2.heap.size + 1 by have := HSZ.out; omega) (.int .i64 (wrt l names k).2))
            generalize es[k] = ek at *
            generalize cs[k] = ck at *
            clear hc he ht3 hb3
            go_wp2
            exact ⟨⟨k + 1, by omega, by go_num, HP.out, HBP.out⟩, by simp [intOf]; omega⟩
          · have hk0 : k = i + 1 := by omega
            subst hk0
            obtain ⟨p0, p1⟩ := ht.tab i (by omega)
            have i1 : (i : Int) < (i : Int) + 1 := by omega
            have n1 : ¬ ((i + 1 : Nat) : Int) ≤ i := by omega
            clear ht hb
            go_wp2
            go_region
            go_wp2
            go_returns
            exact ⟨by rw [HI2.out]; rfl, HBR.out.drewN 1⟩
      · have h0n : ¬ i < 0 := by omega
        have h1n : (len : Int) ≤ i := by omega
        have HX3 := hid (HX2.out.trans (if_neg (fun h => h1 h.2)))
        have HI2 := hid (show evalX l i names = (0, 1) from by rw [HI.out, HX3.out]; rfl)
        clear HX2 HI
        go_enter Tryd.func15, Tryd.ntmps15
        go_wp2_with fail
        refine HC.out.mono ?_
        rintro e w2 ⟨rfl, hb⟩
        have HB := hid hb
        clear hb
        go_wp2
        go_returns
        exact ⟨by rw [HI2.out]; rfl, HB.out⟩
    · have h0n : i < 0 := by omega
      have HX3 := hid (HX2.out.trans (if_neg (fun h => h0 h.1)))
      have HI2 := hid (show evalX l i names = (0, 1) from by rw [HI.out, HX3.out]; rfl)
      clear HX2 HI
      go_enter Tryd.func15, Tryd.ntmps15
      go_wp2_with fail
      refine HC.out.mono ?_
      rintro e w2 ⟨rfl, hb⟩
      have HB := hid hb
      clear hb
      go_wp2
      go_returns
      exact ⟨by rw [HI2.out]; rfl, HB.out⟩
end Go.Proofs.YtlilmidffcmkjaaDoor
