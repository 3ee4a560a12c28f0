/- What a fmt says (contract of the function). -/
import Derived.Test.YtgkgimfdbkpbdaaDoorWavN
import Derived.Test.YtgkgimfdbkpbdaaDoorWavU
namespace Go.Proofs.YtgkgimfdbkpbdaaDoor
open Go.RowKit Go.Conc
set_option linter.unusedVariables false
set_option linter.unusedSimpArgs false
attribute [local go_sem] Oper.semAt_some
theorem has_kept {A B : World} {g : Nat} {t : TypeId} {cs : Array Value} {row : Option Nat} (h : Has A g t cs) (hg : A.grownBy B row) (hr : ∀ r, row = some r → ∃ o : Obj, A.heap[r]? = some o ∧ o.isCells = false) : Has B g t cs :=
  has_grown h hg (fun e => by
    obtain ⟨o, ho, hc⟩ := hr g e
    have h2 : A.heap[g]? = some (.cells cs t (0, 0)) := h
    rw [h2] at ho
    injection ho with ho
    subst ho
    cases hc)
theorem KpC.set {nb i : Nat} (A : World) (u : Value) : KpC nb A (A.setCell ⟨nb, i, none⟩ u) := ⟨by simp [World.setCell], fun j cs t fr hn hi => (Below.heap_setCell A ⟨nb, i, none⟩ u j hn).trans hi⟩
theorem num1_stops (nb m gs : Nat) (hm : 1 ≤ m) (D : ByteArray) (hD : D.size = 16) (w : World) (hs : w.cell? ⟨gs, 0, none⟩ = some (.string D)) (hw : WidAt w) (hnb : nb < w.heap.size) :
    SeqStopsK Fence.wide m Tryd.prog 70 #[.pointer (some ⟨gs, 0, none⟩)] numV (KpC nb) (fun ys => ys = numsL D) (fun _ => True) 6 w := fun l J Jx W hW hJ hJx hY h0 => by
  refine (num1_some nb m l gs hm D hD W.heap.size J Jx hJ W (Bw.cell hW hs) (hw.bw hW) (by have := hW.size; omega) hY h0).mono ?_
  rintro e W' ⟨he, ⟨ys, h, hj⟩ | ⟨pre, hj⟩⟩
  · exact ⟨he, .inl ⟨ys, h, hj⟩⟩
  · exact ⟨he, .inr ⟨pre, trivial, hj⟩⟩
set_option maxHeartbeats 1000000 in
theorem numbers_any (s : ByteArray) (w : World) :
    Calls Tryd.prog 67 #[.string s] w fun e w' => e = .returned (.func (.func 70) #[] #[.pointer (some ⟨w.heap.size, 0, none⟩)]) ∧ w' = w.alloc (.cells #[.string s] 9) := by
  have hmf : ∀ (fn : Fn) (first cap : Array Value) (w : World), (Instr.makeFunc fn first cap).run Tryd.prog w = .ok (.func fn first cap) w := fun _ _ _ _ => rfl
  go_enter Tryd.func67, Tryd.ntmps67
  go_wp2
  go_returns
  exact ⟨rfl, rfl⟩
def rfS (p : Nat × Nat × Nat) (x : Nat × Nat) : Nat × Nat × Nat := if x.1 = 1 then (x.2, p.2.1, p.2.2) else if x.1 = 2 then (p.1, x.2, p.2.2) else if x.1 = 5 then (p.1, p.2.1, x.2) else p
def rfF (l : List (Nat × Nat)) : Nat × Nat × Nat := l.foldl rfS (0, 0, 0)
theorem rfF_snoc (l : List (Nat × Nat)) (x : Nat × Nat) : rfF (l ++ [x]) = rfS (rfF l) x := by unfold rfF; rw [List.foldl_append]; rfl
theorem rfF_nums (D : ByteArray) : rfF (numsL D) = (numAt D 2 2 false, numAt D 4 4 false, numAt D 14 2 false) := rfl
def zeroS : Array Value := #[.int .i64 0, .int .i64 0, .int .i64 0, .string ⟨#[]⟩, .slice none 0 0]
def rfV (p : Nat × Nat × Nat) : Array Value := #[.int .i64 (p.1 : Nat), .int .i64 (p.2.1 : Nat), .int .i64 (p.2.2 : Nat), .string ⟨#[]⟩, .slice none 0 0]
set_option maxRecDepth 100000 in
set_option maxHeartbeats 8000000 in
theorem readFormat_any (D : ByteArray) (hD : D.size = 16) (w : World) (hw : WidAt w) :
    Calls Tryd.prog 59 #[.string D] w fun e w' => e = .returned (.agg (rfV (rfF (numsL D)))) ∧ Bw w w' := by
  have HNU := hid (fun W => numbers_any D W)
  have HWD := hid hw
  clear hw
  refine (callsIn_wide (n := 5)).1 ?_
  refine callsIn_of_wp_marks Tryd.func59 rfl trivial ?_
  simp only [Tryd.ntmps59, List.size_toArray, List.length_cons, List.length_nil, Nat.reduceAdd, Nat.reduceSub, Array.replicate_succ, Array.replicate_zero, List.push_toArray, List.append_toArray, List.nil_append, List.cons_append]
  refine wpIn_wide.2 ?_
  go_wp2_with fail
  have hn0 := Has.new w 34 #[.int .i64 0, .int .i64 0, .int .i64 0, .string ⟨#[]⟩, .slice none 0 0]
  have hn1 := Has.new (w.alloc (.cells #[.int .i64 0, .int .i64 0, .int .i64 0, .string ⟨#[]⟩, .slice none 0 0] 34)) 34 #[.int .i64 0, .int .i64 0, .int .i64 0, .string ⟨#[]⟩, .slice none 0 0]
  simp only [World.size_alloc] at hn1
  have HA0 := hid (hn0.alloc (.cells #[.int .i64 0, .int .i64 0, .int .i64 0, .string ⟨#[]⟩, .slice none 0 0] 34))
  have HA1 := hid hn1
  have HAB := hid (((Bw.refl w).alloc (.cells #[.int .i64 0, .int .i64 0, .int .i64 0, .string ⟨#[]⟩, .slice none 0 0] 34)).alloc (.cells #[.int .i64 0, .int .i64 0, .int .i64 0, .string ⟨#[]⟩, .slice none 0 0] 34))
  clear hn0 hn1
  obtain ⟨na, hna⟩ : ∃ na, w.heap.size = na := ⟨_, rfl⟩
  obtain ⟨nb, hnb⟩ : ∃ nb, na + 1 = nb := ⟨_, rfl⟩
  have HNA := hid hna
  have HNB := hid hnb
  rw [hna] at HA0 HA1
  rw [hnb] at HA1
  rw [show w.heap.size + 1 = nb by omega, hna]
  clear hna hnb
  generalize (w.alloc (.cells #[.int .i64 0, .int .i64 0, .int .i64 0, .string ⟨#[]⟩, .slice none 0 0] 34)).alloc (.cells #[.int .i64 0, .int .i64 0, .int .i64 0, .string ⟨#[]⟩, .slice none 0 0] 34) = w1 at *
  have HGS := hid (show nb + 1 ≤ w1.heap.size from HA1.out.lt)
  refine (HNU.out _).mono ?_
  rintro e w2 ⟨rfl, rfl⟩
  have HB2 := hid ((Bw.refl w1).alloc (.cells #[.string D] 9))
  have HS2 := hid (Has.new w1 9 #[.string D])
  obtain ⟨gs, hgs⟩ : ∃ gs, w1.heap.size = gs := ⟨_, rfl⟩
  have HGE := hid hgs
  rw [hgs] at HS2 ⊢
  clear hgs
  generalize w1.alloc (.cells #[.string D] 9) = w2 at *
  have HI0 := hid (HB2.out.has HA0.out)
  have HI1 := hid (HB2.out.has HA1.out)
  have HW2 := hid (HAB.out.trans HB2.out)
  go_wp2_with fail
  refine wpIn_wide.1 (wpIn_rangeFunc_ownH (F := Fence.wide) (n := 5) rfl (by omega) (gf := 70) (lb := #[.pointer (some ⟨gs, 0, none⟩)]) rfl trivial (enters_of Tryd.func70 (by kernel_rfl) rfl)
    (num1_stops nb 4 gs (by omega) D hD w2 (HS2.out.cell 0) (HWD.out.bw HW2.out) (by have := HGE.out; have := HGS.out; have := HB2.out.size; omega))
    (fun h k => KpC.trans h k) (fun W l o o' hl h hc _ => ⟨by simp [World.putObj], fun i cs t fr hn hi => by
      by_cases e : i = l
      · subst e
        rw [h] at hi
        injection hi with hi
        subst hi
        cases hc
      · exact ((grownBy_putObj' W l o').block i (Array.getElem?_eq_some_iff.1 hi).1 (fun x => e (by cases x; rfl))).trans hi⟩) (Below.refl _ _) (fun _ => rfl)
    (fun pre W => Has W nb 34 (rfV (rfF pre)) ∧ Has W na 34 zeroS ∧ Bw w W ∧ w2.heap.size ≤ W.heap.size)
    (fun _ _ _ => False) ?hI ?hIx ⟨HI1.out, HI0.out, HW2.out, Nat.le_refl _⟩
    (fun x a' W => a' = { tmps := #[.string D, undef, .pointer (some ⟨na, 0, none⟩), .pointer (some ⟨nb, 0, none⟩), .int .i64 (x.1 : Nat), .int .i64 (x.2 : Nat), .string D, .func (.func 70) #[] #[.pointer (some ⟨gs, 0, none⟩)], .int .i64 (x.1 : Nat), .int .i64 (x.2 : Nat), undef, undef, undef, undef, undef, undef, undef, undef, undef, undef, undef, undef, undef, undef], defers := [] })
    ?hAx ?assign ?body ?done ?stop)
  case hI =>
    have hsz := HW2.out.size
    exact fun s A B row hs hg hr => ⟨has_kept hs.1 hg (fun r e => (hr r e).2), has_kept hs.2.1 hg (fun r e => (hr r e).2), ownFrom_below (β := Unit) (n₀ := w.heap.size) (Nat.le_refl _) hsz () A B row hs.2.2.1 hg hr, Nat.le_trans hs.2.2.2 hg.size⟩
  case hIx => exact fun _ _ _ _ _ hs _ _ => hs
  case hAx =>
    rintro x a' _ A B row h hg hr
    exact h
  case assign =>
    rintro l pre x W K ⟨i1, i2, i3, i4⟩ hK
    have hK2 := hK { tmps := #[.string D, undef, .pointer (some ⟨na, 0, none⟩), .pointer (some ⟨nb, 0, none⟩), .int .i64 (x.1 : Nat), .int .i64 (x.2 : Nat), .string D, .func (.func 70) #[] #[.pointer (some ⟨gs, 0, none⟩)], .int .i64 (x.1 : Nat), .int .i64 (x.2 : Nat), undef, undef, undef, undef, undef, undef, undef, undef, undef, undef, undef, undef, undef, undef], defers := [] } W (KeepsFrom.refl _ _) (KpC.of_bw (Bw.refl _)) ⟨i1, i2, i3, i4⟩ rfl
    have HK := hid hK2
    clear hK hK2 i1 i2 i3 i4
    unfold numV at *
    gi_wp2
    exact HK.out
  case body =>
    rintro l pre x a' W hl hr ⟨i1, i2, i3, i4⟩ rfl hlt
    have HCC := hid (rfF_snoc pre x)
    have I1 := hid i1
    have I2 := hid i2
    have I3 := hid i3
    have I4 := hid i4
    obtain ⟨⟨p0, p1, p2⟩, hp⟩ : ∃ p, rfF pre = p := ⟨_, rfl⟩
    rw [hp] at HCC I1
    clear i1 i2 i3 i4 hr hp
    obtain ⟨x1, x2⟩ := x
    have HNN := hid (show na ≠ nb by have := HNB.out; omega)
    have HNW := hid (show w.heap.size ≤ nb by have := HNB.out; have := HNA.out; omega)
    simp only at *
    have f0 := I1.out.frozen 0
    have f1 := I1.out.frozen 1
    have f2 := I1.out.frozen 2
    have k0 : W.cell? ⟨nb, 0, none⟩ = some (.int .i64 (p0 : Nat)) := I1.out.cell 0
    have k1 : W.cell? ⟨nb, 1, none⟩ = some (.int .i64 (p1 : Nat)) := I1.out.cell 1
    have k2 : W.cell? ⟨nb, 2, none⟩ = some (.int .i64 (p2 : Nat)) := I1.out.cell 2
    by_cases h1 : x1 = 1
    · subst h1
      have HC := hid (show rfF (pre ++ [(1, x2)]) = (x2, p1, p2) from by rw [HCC.out]; rfl)
      gi_wp2
      have hp := I1.out.put 0 (Value.int .i64 (x2 : Nat))
      exact ⟨(KeepsOthers.setCell _ _ _).from _, KpC.set _ _, by rw [HC.out]; simpa [rfV] using hp, I2.out.far HNN.out _, Below.setCell I3.out HNW.out _, by simpa [World.setCell] using I4.out⟩
    · by_cases h2 : x1 = 2
      · subst h2
        have HC := hid (show rfF (pre ++ [(2, x2)]) = (p0, x2, p2) from by rw [HCC.out]; rfl)
        gi_wp2
        have hp := I1.out.put 1 (Value.int .i64 (x2 : Nat))
        exact ⟨(KeepsOthers.setCell _ _ _).from _, KpC.set _ _, by rw [HC.out]; simpa [rfV] using hp, I2.out.far HNN.out _, Below.setCell I3.out HNW.out _, by simpa [World.setCell] using I4.out⟩
      · by_cases h5 : x1 = 5
        · subst h5
          have HC := hid (show rfF (pre ++ [(5, x2)]) = (p0, p1, x2) from by rw [HCC.out]; rfl)
          gi_wp2
          have hp := I1.out.put 2 (Value.int .i64 (x2 : Nat))
          exact ⟨(KeepsOthers.setCell _ _ _).from _, KpC.set _ _, by rw [HC.out]; simpa [rfV] using hp, I2.out.far HNN.out _, Below.setCell I3.out HNW.out _, by simpa [World.setCell] using I4.out⟩
        · have HC := hid (show rfF (pre ++ [(x1, x2)]) = (p0, p1, p2) from by rw [HCC.out]; unfold rfS; rw [if_neg h1, if_neg h2, if_neg h5])
          have t1 : ((x1 : Int) == 1) = false := by rw [beq_eq_false_iff_ne]; omega
          have t2 : ((x1 : Int) == 2) = false := by rw [beq_eq_false_iff_ne]; omega
          have t5 : ((x1 : Int) == 5) = false := by rw [beq_eq_false_iff_ne]; omega
          gi_wp2
          exact ⟨KeepsFrom.refl _ _, KpC.of_bw (Bw.refl _), by rw [HC.out]; exact I1.out, I2.out, I3.out, I4.out⟩
  case done =>
    rintro Dd ys W hDd rfl ⟨i1, i2, i3, i4⟩ hK
    have I3 := hid i3
    have I2 := hid i2
    obtain ⟨⟨p0, p1, p2⟩, hp⟩ : ∃ p, rfF (numsL D) = p := ⟨_, rfl⟩
    rw [hp] at i1
    have HPP := hid hp
    clear hp
    have HZZ := hid i2
    obtain ⟨n0, n1, n2, n3, n4⟩ := i1.five
    obtain ⟨z0, z1, z2, z3, z4⟩ := i2.five
    have g0 := i2.frozen 0
    have g1 := i2.frozen 1
    have g2 := i2.frozen 2
    have g3 := i2.frozen 3
    have g4 := i2.frozen 4
    clear i1 i2
    have hset : ∀ (V : World) (i : Nat) (u : Value), V.heap[Dd]? = some (.deferred (some [])) → (V.setCell ⟨na, i, none⟩ u).heap[Dd]? = some (.deferred (some [])) := fun V i u hV => (Below.heap_setCell V ⟨na, i, none⟩ u Dd (by have := HI0.out.lt; show Dd ≠ na; omega)).trans hV
    have hK2 := hset _ 4 (.slice none 0 0) (hset _ 3 (.string ⟨#[]⟩) (hset _ 2 (.int .i64 (p2 : Nat)) (hset _ 1 (.int .i64 (p1 : Nat)) (hset W 0 (.int .i64 (p0 : Nat)) hK))))
    have hZ2 := ((((HZZ.out.put 0 (.int .i64 (p0 : Nat))).put 1 (.int .i64 (p1 : Nat))).put 2 (.int .i64 (p2 : Nat))).put 3 (.string ⟨#[]⟩)).put 4 (.slice none 0 0)
    have hset2 : ∀ (V : World) (i : Nat) (u : Value), Bw w V → Bw w (V.setCell ⟨na, i, none⟩ u) := fun V i u hV => Below.setCell (p := ⟨na, i, none⟩) hV (by have := HNA.out; show w.heap.size ≤ na; omega) u
    have hB2 := hset2 _ 4 (.slice none 0 0) (hset2 _ 3 (.string ⟨#[]⟩) (hset2 _ 2 (.int .i64 (p2 : Nat)) (hset2 _ 1 (.int .i64 (p1 : Nat)) (hset2 W 0 (.int .i64 (p0 : Nat)) I3.out))))
    have HK2 := hid hK2
    have HZ2 := hid hZ2
    have HB2 := hid hB2
    clear hset hset2 hK2 hZ2 hB2 hK
    go_wp2
    generalize World.setCell (World.setCell (World.setCell (World.setCell (World.setCell W _ _) _ _) _ _) _ _) _ _ = wz at *
    have y0 : wz.cell? ⟨na, 0, none⟩ = some (.int .i64 (p0 : Nat)) := (HZ2.out.cell 0).trans rfl
    have y1 : wz.cell? ⟨na, 1, none⟩ = some (.int .i64 (p1 : Nat)) := (HZ2.out.cell 1).trans rfl
    have y2 : wz.cell? ⟨na, 2, none⟩ = some (.int .i64 (p2 : Nat)) := (HZ2.out.cell 2).trans rfl
    have y3 : wz.cell? ⟨na, 3, none⟩ = some (.string ⟨#[]⟩) := (HZ2.out.cell 3).trans rfl
    have y4 : wz.cell? ⟨na, 4, none⟩ = some (.slice none 0 0) := (HZ2.out.cell 4).trans rfl
    refine ⟨by simp, .inl ⟨_, _, rfl, run_takeDeferred HK2.out, ?_⟩⟩
    have HB3 := hid (show Bw w _ from Below.grown HB2.out (grownBy_putObj' wz Dd (.deferred none)) (by have := HW2.out.size; have := HB2.out.size; omega) (fun r e => by injection e with e; have := HW2.out.size; omega))
    have hpb : (wz.putObj Dd (.deferred none)).heap[na]? = wz.heap[na]? := (grownBy_putObj' wz Dd (.deferred none)).block na HZ2.out.lt (fun e => by injection e with e; have := HI0.out.lt; omega)
    have v0 := (World.cell?_of_block (a := ⟨na, 0, none⟩) hpb).trans y0
    have v1 := (World.cell?_of_block (a := ⟨na, 1, none⟩) hpb).trans y1
    have v2 := (World.cell?_of_block (a := ⟨na, 2, none⟩) hpb).trans y2
    have v3 := (World.cell?_of_block (a := ⟨na, 3, none⟩) hpb).trans y3
    have v4 := (World.cell?_of_block (a := ⟨na, 4, none⟩) hpb).trans y4
    clear y0 y1 y2 y3 y4 hpb
    generalize wz.putObj Dd (.deferred none) = wy at *
    have HRF := hid (show rfV (rfF (numsL D)) = rfV (p0, p1, p2) from by rw [HPP.out])
    unfold rfV at HRF
    refine ⟨.agg (rfV (p0, p1, p2)), (by simp [results, Tryd.results59, go_sem, v0, v1, v2, v3, v4, rfV]), by first | (rw [HPP.out]) | rfl, ?_⟩
    first | exact HB3.out | exact ⟨by rw [HPP.out], HB3.out⟩
  case stop =>
    rintro Dd c pre W _ _ h _
    exact h.elim
end Go.Proofs.YtgkgimfdbkpbdaaDoor
