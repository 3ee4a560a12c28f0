/- How many parts an expression has (contract of the document's function). -/
import Derived.Test.YtlilmidffcmkjaaDoorExpSd
import Derived.Test.YtlilmidffcmkjaaDoorKitE
import Derived.Test.YtlilmidffcmkjaaDoorExpF
namespace Go.Proofs.YtlilmidffcmkjaaDoor
open Go.RowKit
set_option linter.unusedVariables false
set_option linter.unusedSimpArgs false
theorem intInfoE : (Tryd.prog.info? 3).map (fun i => (i.zero, i.size, i.bytes)) = some (some (.int .i64 0), 1, 8) := by kernel_rfl
theorem make_int (N : Nat) (hN : N ≤ 1000) (w : World) : (Instr.makeSlice 66 (.int .i64 N) (.int .i64 N)).run Tryd.prog w = .ok (.slice (some ⟨w.heap.size, 0, none⟩) N N) (w.alloc (.cells (madeCells #[.int .i64 0] N) 3)) := by
  obtain ⟨i0, hinf, hz0, hz1, hz2⟩ := info_parts intInfoE
  have := run_makeSlice (P := Tryd.prog) (w := w) 66 3 i0 (.int .i64 0) Tryd.underlying66 hinf hz0 .i64 .i64 N N (by omega) (by omega) (by rw [hz1]; simp; omega) (by rw [hz2]; omega) (by omega)
  rw [this, hz1]
  simp only [Int.toNat_natCast, Nat.mul_one]
  rfl
/-- How many parts the j-th has. -/
def cnF (l : List ExpR) (j : Nat) : Nat := (cntT l (j + 1)).getD j 0
theorem cnt_get (l : List ExpR) : ∀ k j, j < k → (cntT l k).getD j 0 = cnF l j
  | 0, j, h => by omega
  | k + 1, j, h => by
    have hl := cntT_len l k
    by_cases c : j < k
    · rw [cntT, List.getD_eq_getElem?_getD, List.getElem?_append_left (by omega), ← List.getD_eq_getElem?_getD]
      exact cnt_get l k j c
    · obtain rfl : j = k := by omega
      rfl
theorem cnF_is (l : List ExpR) (k : Nat) : cnF l k = if (l.getD k dfX).op ≠ nilS then min 1000000 (1 + (cntT l k).getD (l.getD k dfX).l.toNat 0 + (cntT l k).getD (l.getD k dfX).r.toNat 0) else 1 := by
  have hl := cntT_len l k
  unfold cnF
  rw [cntT, List.getD_eq_getElem?_getD, List.getElem?_append_right (by omega), hl, Nat.sub_self]
  rfl
theorem cnF_le (l : List ExpR) (k : Nat) : cnF l k ≤ 1000000 := by
  rw [cnF_is]
  split
  · exact Nat.min_le_left _ _
  · decide
/-- The counts so far, in memory. -/
structure CntAt (w : World) (nb N : Nat) (l : List ExpR) (k : Nat) : Prop where
  has : ∃ cs, cs.size = N ∧ Has w nb 3 cs ∧ (∀ j, j < k → cs[j]? = some (.int .i64 (cnF l j : Nat))) ∧ ∀ j, j < N → ∃ x : Value, cs[j]? = some x
theorem CntAt.bw {w w' : World} {nb N k : Nat} {l : List ExpR} (h : CntAt w nb N l k) (hb : Bw w w') : CntAt w' nb N l k := by
  obtain ⟨cs, h1, h2, h3, h4⟩ := h.has
  exact ⟨cs, h1, hb.has h2, h3, h4⟩
theorem CntAt.one {w : World} {nb N k : Nat} {l : List ExpR} (h : CntAt w nb N l k) (hk : k < N) (x : Value) (hx : x = .int .i64 (cnF l k : Nat)) : CntAt (w.setCell ⟨nb, k, none⟩ x) nb N l (k + 1) := by
  obtain ⟨cs, h1, h2, h3, h4⟩ := h.has
  subst hx
  refine ⟨_, by rw [Array.size_setIfInBounds, h1], h2.put k _, fun j hj => ?_, fun j hj => ?_⟩
  · rw [Array.getElem?_setIfInBounds]
    by_cases c : k = j
    · subst c; rw [if_pos rfl, if_pos (by omega)]
    · rw [if_neg c]; exact h3 j (by omega)
  · rw [Array.getElem?_setIfInBounds]
    by_cases c : k = j
    · subst c; rw [if_pos rfl, if_pos (by omega)]; exact ⟨_, rfl⟩
    · rw [if_neg c]; exact h4 j hj
/-- The last but one stands: a number beside what is known. -/
theorem CntAt.mid {w : World} {nb N k : Nat} {l : List ExpR} (h : CntAt w nb N l k) (x : Value) : CntAt (w.setCell ⟨nb, k, none⟩ x) nb N l k := by
  obtain ⟨cs, h1, h2, h3, h4⟩ := h.has
  refine ⟨_, by rw [Array.size_setIfInBounds, h1], h2.put k _, fun j hj => ?_, fun j hj => ?_⟩
  · rw [Array.getElem?_setIfInBounds, if_neg (by omega)]; exact h3 j hj
  · rw [Array.getElem?_setIfInBounds]
    by_cases c : k = j
    · subst c; rw [if_pos rfl, if_pos (by omega)]; exact ⟨_, rfl⟩
    · rw [if_neg c]; exact h4 j hj
set_option maxRecDepth 100000 in
set_option maxHeartbeats 8000000 in
theorem parts_any (a : Option Addr) (len cap : Nat) (hlen : len ≤ 400) (l : List ExpR) (hll : Hid (l.length = len)) (hcB : checkB l = true) (i : Nat) (hi : i < len) (w : World) (hst : ExpAt w a l) :
    Calls Tryd.prog 17 #[.slice a len cap, .int .i64 i] w fun e w' => e = .returned (.int .i64 (partsF l i : Nat)) ∧ Bw w w' := by
  have HST := hid hst
  have HCB := hid hcB
  have hm := fun (W : World) => make_int (i + 1) (by omega) W
  have ci : ((i + 1 : Nat) : Int) = (i : Int) + 1 := by omega
  rw [ci] at hm
  have HB0 := hid ((Bw.refl w).alloc (.cells (madeCells #[.int .i64 0] (i + 1)) 3))
  have HC0 : Hid (CntAt (w.alloc (.cells (madeCells #[.int .i64 0] (i + 1)) 3)) w.heap.size (i + 1) l 0) := hid (by
    refine ⟨_, by rw [size_madeCells], Has.new w _ _, fun j hj => by omega, fun j hj => ?_⟩
    rw [Array.getElem?_eq_getElem (by rw [size_madeCells]; simpa using hj)]
    exact ⟨_, rfl⟩)
  obtain ⟨nb, hnb⟩ : ∃ nb, w.heap.size = nb := ⟨_, rfl⟩
  have HNB := hid hnb
  clear hst hcB
  go_enter Tryd.func17, Tryd.ntmps17
  go_wp2
  rw [hnb] at HC0
  generalize w.alloc (.cells (madeCells #[.int .i64 0] (i + 1)) 3) = W0 at *
  clear hnb hm
  go_loopw [6] (fun vi wr => ∃ k : Nat, k ≤ i + 1 ∧ vi = .int .i64 k ∧ CntAt wr nb (i + 1) l k ∧ Bw w wr) (fun vi _ => i + 1 - (intOf vi).toNat)
  case atStart => exact ⟨0, Nat.zero_le _, rfl, HC0.out, HB0.out⟩
  case round =>
    rename World => wr
    obtain ⟨k, hk, rfl, hc, hb⟩ := hrel
    have HC := hid hc
    have HB := hid hb
    by_cases hlt : k < i + 1
    · have hk1 : (k : Int) ≤ i := by omega
      have hk2 : (k : Int) < len := by omega
      have hk3 : (k : Int) < (i : Int) + 1 := by omega
      have hkl : k < l.length := by rw [hll.out]; omega
      obtain ⟨cs, z1, z2, z3, z4⟩ := hc.has
      obtain ⟨u0, hu0⟩ := z4 k hlt
      have p0 : wr.cell? ⟨nb, k, none⟩ = some u0 := (z2.cell k).trans hu0
      have f0 : wr.frozen? ⟨nb, k, none⟩ = false := z2.frozen k
      have hbn : Bw w (wr.setCell ⟨nb, k, none⟩ (.int .i64 1)) := Below.setCell (p := ⟨nb, k, none⟩) hb (show w.heap.size ≤ nb by have := HNB.out; omega) _
      have HB1 := hid hbn
      have HM := hid (hc.mid (.int .i64 1))
      have HIS := hid (cnF_is l k)
      have hit := check_item HCB.out hkl
      have hgx : l.getD k dfX = l[k] := by rw [List.getD_eq_getElem?_getD, List.getElem?_eq_getElem hkl]; rfl
      rw [hgx] at HIS
      obtain ⟨b, off, rfl, hbb, c0, c1, c2, c3, c4, hv⟩ := HST.out.below hbn k hkl
      obtain ⟨⟨o, nm, n, x, y⟩, hx⟩ : ∃ q, l[k]'hkl = q := ⟨_, rfl⟩
      rw [hx] at c0 c1 c2 c3 c4 HIS hit
      simp only at c0 c1 c2 c3 c4 HIS
      clear hv hbb hx hb hc z1 z3 z4 hu0 hgx hbn
      by_cases ho : o = ⟨#[]⟩
      · have HON := hid (hid HC.out).out
        have HN := hid (HC.out.one hlt (.int .i64 1) (by rw [HIS.out, if_neg (fun h => h ho)]; rfl))
        subst ho
        clear hit z2
        go_wp2
        exact ⟨⟨k + 1, by omega, by go_num, HN.out, HB1.out⟩, by simp [intOf]; omega⟩
      · have t0 := toList_ne o ho
        have t1 : (o.toList == nilS.toList) = false := str_ne ho
        unfold itemB leafB operB at hit
        simp only [Bool.or_eq_true, Bool.and_eq_true, decide_eq_true_eq] at hit
        rcases hit with ⟨⟨⟨h1, _⟩, _⟩, _⟩ | ⟨⟨⟨⟨⟨⟨q1, q2⟩, q3⟩, h1⟩, h2⟩, h3⟩, h4⟩
        · exact absurd h1 ho
        · clear q1 q2 q3
          obtain ⟨x, rfl⟩ := Int.eq_ofNat_of_zero_le h1
          obtain ⟨y, rfl⟩ := Int.eq_ofNat_of_zero_le h3
          have hxk : x < k := by omega
          have hyk : y < k := by omega
          rw [if_pos (show o ≠ nilS from ho), Int.toNat_natCast, Int.toNat_natCast, cnt_get l k x hxk, cnt_get l k y hyk] at HIS
          have hxl := cnF_le l x
          have hyl := cnF_le l y
          obtain ⟨cs, y1, y2, y3, y4⟩ := HM.out.has
          generalize hW1 : wr.setCell ⟨nb, k, none⟩ (.int .i64 1) = W1 at *
          have d0 : W1.drew.cell? ⟨nb, x, none⟩ = some (.int .i64 (cnF l x : Nat)) := (y2.cell x).trans (y3 x hxk)
          have d1 : W1.drew.cell? ⟨nb, y, none⟩ = some (.int .i64 (cnF l y : Nat)) := (y2.cell y).trans (y3 y hyk)
          obtain ⟨u1, hu1⟩ := y4 k hlt
          have d2 : W1.drew.cell? ⟨nb, k, none⟩ = some u1 := (y2.cell k).trans hu1
          have d3 : W1.drew.frozen? ⟨nb, k, none⟩ = false := y2.frozen k
          have HD := hid (HM.out.bw ((Bw.refl W1).drewN 1))
          have HBD := hid (HB1.out.drewN 1)
          generalize hcx : cnF l x = cx at *
          generalize hcy : cnF l y = cy at *
          have hx1 : (x : Int) < (i : Int) + 1 := by omega
          have hy1 : (y : Int) < (i : Int) + 1 := by omega
          clear y2 y3 y4 hu1 z2
          have c3d : W1.drew.cell? ⟨b, off + k * 5 + 3, none⟩ = some (.int .i64 (x : Nat)) := c3
          have c4d : W1.drew.cell? ⟨b, off + k * 5 + 4, none⟩ = some (.int .i64 (y : Nat)) := c4
          by_cases hmm : 1 + cx + cy < 1000000
          · have i1 : (1 : Int) + cx + cy < 1000000 := by omega
            have i2 : ¬ (1000000 : Int) ≤ (1 : Int) + cx + cy := by omega
            have i3 : ¬ (1000000 : Int) < (1 : Int) + cx + cy := by omega
            have HF := hid (HM.out.one hlt (.int .i64 ((1 : Int) + cx + cy)) (by rw [HIS.out, Nat.min_eq_right (by omega)]; rfl))
            have HBF := hid (Below.setCell (p := ⟨nb, k, none⟩) HB1.out (show w.heap.size ≤ nb by have := HNB.out; omega) (.int .i64 ((1 : Int) + cx + cy)))
            clear hmm
            go_wp2_with fail
            go_region
            go_wp2
            exact ⟨⟨k + 1, by omega, by go_num, HF.out.bw ((Bw.refl _).drewN 1), Bw.drewN HBF.out 1⟩, by simp [intOf]; omega⟩
          · have i1 : ¬ (1 : Int) + cx + cy < 1000000 := by omega
            have i2 : (1000000 : Int) ≤ (1 : Int) + cx + cy := by omega
            have HF := hid (HM.out.one hlt (.int .i64 1000000) (by rw [HIS.out, Nat.min_eq_left (by omega)]; rfl))
            have HBF := hid (Below.setCell (p := ⟨nb, k, none⟩) HB1.out (show w.heap.size ≤ nb by have := HNB.out; omega) (.int .i64 1000000))
            clear hmm
            go_wp2_with fail
            go_region
            go_wp2
            exact ⟨⟨k + 1, by omega, by go_num, HF.out.bw ((Bw.refl _).drewN 1), Bw.drewN HBF.out 1⟩, by simp [intOf]; omega⟩
    · obtain rfl : k = i + 1 := by omega
      obtain ⟨cs, z1, z2, z3, z4⟩ := hc.has
      have p0 : wr.cell? ⟨nb, i, none⟩ = some (.int .i64 (cnF l i : Nat)) := (z2.cell i).trans (z3 i (by omega))
      have hp : partsF l i = cnF l i := rfl
      have HP := hid hp
      have hii : (i : Int) < (i : Int) + 1 := by omega
      clear hc z2 z3 z4 hb hp
      go_wp2
      go_returns
      exact ⟨by rw [HP.out]; rfl, HB.out⟩
end Go.Proofs.YtlilmidffcmkjaaDoor
