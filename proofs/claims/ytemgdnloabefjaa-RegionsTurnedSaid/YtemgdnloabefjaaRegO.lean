/- The set's Gaps (contract of the function). -/
import Derived.Test.YtemgdnloabefjaaRegN
import Derived.Maps.OwnIn
namespace Go.Proofs.Ytemgdnloabefjaa
open Go.RowKit Go.Conc
set_option linter.unusedVariables false
attribute [local go_sem] Oper.semAt_some
theorem over_le (L : List PartR) (lo hi : Int) : (overL L lo hi).length ≤ L.length := by
  unfold overL
  exact Nat.le_trans (List.takeWhile_prefix _).length_le (by simp)
theorem own_low {w : World} {B C n size : Nat} {t : TypeId} {v : Value} {xs : List Value} (hBC : B ≤ C) (h : w.ownsRow C t size v n xs) : w.ownsRow B t size v n xs := by
  refine ⟨h.1, ?_⟩
  rcases h.2 with ⟨rfl, h0⟩ | ⟨g', cap, cur, rfl, h1, h2⟩
  · exact .inl ⟨rfl, h0⟩
  · exact .inr ⟨g', cap, cur, rfl, Nat.le_trans hBC h1, h2⟩
theorem own_kept {A B : World} {C n size : Nat} {t : TypeId} {v : Value} {xs : List Value} {row : Option Nat} (h : A.ownsRow C t size v n xs) (hg : A.grownBy B row) (hr : ∀ r, row = some r → ∃ o : Obj, A.heap[r]? = some o ∧ o.isCells = false) : B.ownsRow C t size v n xs :=
  own_keep h fun b hb => hg.block b (own_lt h hb) fun e => by
    obtain ⟨o, ho, hc⟩ := hr b e.symm
    obtain ⟨cur, h2⟩ := own_at h hb
    rw [h2] at ho
    injection ho with ho
    subst ho
    cases hc
set_option maxRecDepth 100000 in
set_option maxHeartbeats 4000000 in
theorem gaps_ok (g : Nat) (L : List PartR) (hR : Rising L) (h9 : L.length ≤ 1000000) (lo hi : Nat) (w : World) (hs : SetAt w g L) (hsp : spB lo hi = true) :
    Calls Try.prog 22 #[.pointer (some ⟨g, 0, none⟩), .int .i64 lo, .int .i64 hi] w fun e w' => ∃ v : Value, e = .returned v ∧ w'.ownsRow w.heap.size 31 2 v (rgaps L lo hi).length (spanCells (rgaps L lo hi)) ∧ Bw w w' := by
  obtain ⟨i0, hinf, hz0, hz1, hz2⟩ := info_parts spanInfo
  have HS := hid (fun W => isSpan_any lo hi W)
  rw [hsp] at HS
  have HO := hid (fun W => over_ret g lo hi W)
  have HSET := hid hs
  clear hs
  refine (callsIn_wide (n := 5)).1 ?_
  refine callsIn_of_wp_marks Try.func22 rfl trivial ?_
  simp only [Try.ntmps22, List.size_toArray, List.length_cons, List.length_nil, Nat.reduceAdd, Nat.reduceSub, Array.replicate_succ, Array.replicate_zero, List.push_toArray, List.append_toArray, List.nil_append, List.cons_append]
  refine wpIn_wide.2 ?_
  go_wp2_with fail
  refine (HS.out _).mono ?_
  rintro e w1 ⟨rfl, rfl⟩
  go_wp2_with fail
  have hn0 := Has.new w 22 #[.slice none 0 0]
  have hn1 := Has.new (w.alloc (.cells #[.slice none 0 0] 22)) 3 #[.int .i64 (lo : Int)]
  simp only [World.size_alloc] at hn1
  have HX := hid (⟨hn0.alloc _, hn1⟩ : Has ((w.alloc (.cells #[.slice none 0 0] 22)).alloc (.cells #[.int .i64 (lo : Int)] 3)) w.heap.size 22 #[.slice none 0 0] ∧ Has ((w.alloc (.cells #[.slice none 0 0] 22)).alloc (.cells #[.int .i64 (lo : Int)] 3)) (w.heap.size + 1) 3 #[.int .i64 (lo : Int)])
  have HB1 := hid (((Bw.refl w).alloc (.cells #[.slice none 0 0] 22)).alloc (.cells #[.int .i64 (lo : Int)] 3))
  clear hn0 hn1
  generalize ((w.alloc (.cells #[.slice none 0 0] 22)).alloc (.cells #[.int .i64 (lo : Int)] 3)) = W1 at *
  refine (HO.out _).mono ?_
  rintro e w2 ⟨gs, gl, gh, rfl, ho, hb2⟩
  have HO2 := hid ho
  have HB2 := hid (HB1.out.trans hb2)
  have HX2 := hid (⟨hb2.has HX.out.1, hb2.has HX.out.2⟩ : Has w2 w.heap.size 22 #[.slice none 0 0] ∧ Has w2 (w.heap.size + 1) 3 #[.int .i64 (lo : Int)])
  clear ho hb2
  go_wp2_with fail
  obtain ⟨nbG, hnbG⟩ : ∃ nb, w.heap.size = nb := ⟨_, rfl⟩
  obtain ⟨nbA, hnbA⟩ : ∃ nb, nbG + 1 = nb := ⟨_, rfl⟩
  rw [hnbG, hnbA] at HX2 ⊢
  have HNG := hid hnbG
  have HNA := hid hnbA
  obtain ⟨hsp1, hsp2, hsp3⟩ := of_decide_eq_true hsp
  have hghG : gh ≠ nbG := fun e => by
    have h1 := HO2.out.2.2
    have h2 := HX2.out.1.cell 0
    rw [e, h2] at h1
    have h3 : some (Value.slice none 0 0) = some (Value.int .i64 (hi : Int)) := h1
    injection h3 with h3
    cases h3
  have hghA : gh ≠ nbA := fun e => by
    have h1 := HO2.out.2.2
    have h2 := HX2.out.2.cell 0
    rw [e, h2] at h1
    have h3 : some (Value.int .i64 (lo : Int)) = some (Value.int .i64 (hi : Int)) := h1
    injection h3 with h3
    injection h3 with _ h3
    omega
  have hghl : gh < w2.heap.size := cell_lt HO2.out.2.2
  have hnbl : nbA < w2.heap.size := HX2.out.2.lt
  have hnbl2 : nbG < w2.heap.size := HX2.out.1.lt
  have hws : w.heap.size ≤ w2.heap.size := HB2.out.size
  clear hnbG hnbA
  refine wpIn_wide.1 (wpIn_rangeFunc_ownH (F := Fence.wide) (n := 5) rfl (by omega) (gf := 75) (lb := #[.pointer (some ⟨gs, 0, none⟩), .pointer (some ⟨gl, 0, none⟩), .pointer (some ⟨gh, 0, none⟩)]) rfl trivial (enters_of Try.func75 (by kernel_rfl) rfl)
    (over_stops (fun i => i = nbG ∨ i = nbA ∨ w2.heap.size ≤ i) 4 gs gl gh g (by omega) L hR h9 lo hi w w2 HSET.out HB2.out HO2.out (fun i hi => by have := HNG.out; have := HNA.out; omega) (fun h => by omega))
    (fun h k => Keeps.trans h k) (fun W l o o' hl h _ _ => keeps_grown (grownBy_putObj' W l o') (fun r e => by injection e with e; omega)) (Below.refl _ _) (fun _ => rfl)
    (fun pre W => (∃ v : Value, Has W nbG 22 #[v] ∧ W.ownsRow w2.heap.size 31 2 v (gapC pre lo).1.length (spanCells (gapC pre lo).1)) ∧ Has W nbA 3 #[.int .i64 ((gapC pre lo).2 : Nat)] ∧ (gapC pre lo).1.length ≤ pre.length ∧ Bw w W ∧ w2.heap.size ≤ W.heap.size)
    (fun _ _ _ => False) ?hI ?hIx ⟨⟨_, HX2.out.1, World.ownsRow_nil _ _ _ _⟩, HX2.out.2, Nat.le_refl _, HB2.out, Nat.le_refl _⟩
    (fun x a' W => ∃ Bx : Nat, w2.heap.size ≤ Bx ∧ Has W Bx 83 #[.int .i64 (x.lo : Int), .int .i64 (x.hi : Int), .int .i64 x.x] ∧ a' = { tmps := #[.pointer (some ⟨g, 0, none⟩), .int .i64 (lo : Int), .int .i64 (hi : Int), undef, undef, undef, .slice none 0 0, .pointer (some ⟨nbG, 0, none⟩), .pointer (some ⟨nbA, 0, none⟩), .pointer (some ⟨Bx, 0, none⟩), .int .i64 (lo : Int), .int .i64 (hi : Int), .bool true, .bool false, .int .i64 (lo : Int), .pointer (some ⟨g, 0, none⟩), .int .i64 (lo : Int), .int .i64 (hi : Int), .func (.func 75) #[] #[.pointer (some ⟨gs, 0, none⟩), .pointer (some ⟨gl, 0, none⟩), .pointer (some ⟨gh, 0, none⟩)], partV x, undef, undef, undef, undef, undef, undef, undef, undef, undef, undef, undef, undef, undef, undef, undef, undef, undef, undef, undef, undef, undef, undef, undef, undef, undef, undef], defers := [] })
    ?hAx ?assign ?body ?done ?stop)
  case hI =>
    rintro s A B row ⟨⟨v, s1, s2⟩, s3, s4, s5, s6⟩ hg hr
    exact ⟨⟨v, has_kept s1 hg (fun r e => (hr r e).2), own_kept s2 hg (fun r e => (hr r e).2)⟩, has_kept s3 hg (fun r e => (hr r e).2), s4, ownFrom_below (β := Unit) (n₀ := w.heap.size) (Nat.le_refl _) hws () A B row s5 hg hr, Nat.le_trans s6 hg.size⟩
  case hIx => exact fun _ _ _ _ _ hs _ _ => hs
  case hAx =>
    rintro x a' _ A B row ⟨Bx, h1, h2, h3⟩ hg hr
    exact ⟨Bx, h1, has_kept h2 hg (fun r e => (hr r e).2), h3⟩
  case assign =>
    rintro l pre x W K ⟨⟨v, i0, i1⟩, i2, i3, i4, i5⟩ hK
    have hK2 := hK { tmps := #[.pointer (some ⟨g, 0, none⟩), .int .i64 (lo : Int), .int .i64 (hi : Int), undef, undef, undef, .slice none 0 0, .pointer (some ⟨nbG, 0, none⟩), .pointer (some ⟨nbA, 0, none⟩), .pointer (some ⟨W.heap.size, 0, none⟩), .int .i64 (lo : Int), .int .i64 (hi : Int), .bool true, .bool false, .int .i64 (lo : Int), .pointer (some ⟨g, 0, none⟩), .int .i64 (lo : Int), .int .i64 (hi : Int), .func (.func 75) #[] #[.pointer (some ⟨gs, 0, none⟩), .pointer (some ⟨gl, 0, none⟩), .pointer (some ⟨gh, 0, none⟩)], partV x, undef, undef, undef, undef, undef, undef, undef, undef, undef, undef, undef, undef, undef, undef, undef, undef, undef, undef, undef, undef, undef, undef, undef, undef, undef, undef], defers := [] } (W.alloc (.cells #[.int .i64 (x.lo : Int), .int .i64 (x.hi : Int), .int .i64 x.x] 83)) ((KeepsOthers.alloc _ _).from _) ((Keeps.refl _ W).alloc _) ⟨⟨v, i0.alloc _, i1.alloc _⟩, i2.alloc _, i3, i4.alloc _, by simp only [World.size_alloc]; omega⟩ ⟨W.heap.size, i5, Has.new W _ _, rfl⟩
    have HK := hid hK2
    clear hK hK2 i0 i1 i2 i3 i4
    unfold partV at *
    gi_wp2
    exact HK.out
  case body =>
    rintro l pre x a' W hl hr ⟨⟨v, i0', i1⟩, i2, i3, i4, i5⟩ ⟨Bx, hBx, hX, rfl⟩ hlt
    obtain ⟨vo, vc, rfl⟩ := own_slice i1
    have a0 : W.cell? ⟨nbA, 0, none⟩ = some (.int .i64 ((gapC pre lo).2 : Nat)) := i2.cell 0
    have g0 : W.cell? ⟨nbG, 0, none⟩ = some (.slice vo (gapC pre lo).1.length vc) := i0'.cell 0
    have x0 : W.cell? ⟨Bx, 0, none⟩ = some (.int .i64 (x.lo : Int)) := hX.cell 0
    have x1 : W.cell? ⟨Bx, 1, none⟩ = some (.int .i64 (x.hi : Int)) := hX.cell 1
    have f0 := i2.frozen 0
    have f1 := i0'.frozen 0
    have I0 := hid i0'
    have I1 := hid i1
    have I2 := hid i2
    have I3 := hid i3
    have I4 := hid i4
    have HXX := hid hX
    have HCC := hid (gapC_snoc pre x lo)
    generalize gapC pre lo = cc at *
    obtain ⟨cg, ca⟩ := cc
    clear i0' i1 i2 i3 i4 hX hr
    dsimp only at *
    have hl6 : cg.length < 1000000 := Nat.lt_of_le_of_lt I3.out hlt
    by_cases hlt2 : ca < x.lo
    · have hli : (ca : Int) < x.lo := by omega
      have hst : gapS (cg, ca) x = (cg ++ [(ca, x.lo)], x.hi) := if_pos hlt2
      have HQ := hid (HCC.out.trans hst)
      clear hst
      gi_wp2_with (gi_at_builtin; refine wpListIn_append_own_at _ rfl (.tmp 25) (.tmp 31) 22 rfl w2.heap.size 31 i0 (.agg #[.int .i64 0, .int .i64 0]) 2 16 Try.underlying22 hinf hz0 hz1 hz2 rfl (by decide) (.slice vo cg.length vc) cg.length (spanCells cg) rfl (I1.out.alloc _) ⟨W.heap.size, 0, none⟩ 1 1 [.int .i64 ca, .int .i64 x.lo] rfl rfl (own_two _ _ _ _) (by intro u hu; simp at hu; rcases hu with rfl | rfl <;> rfl) (by unfold maxLen; omega) (by omega) (by simp only [World.size_alloc]; omega) ?_; intro v' w5 hown5 hgrow5 _ _; obtain ⟨vo5, vc5, rfl⟩ := own_slice hown5; have HO5 := hid hown5; have HG5 := hid hgrow5; have hX5 := has_grown (HXX.out.alloc _) hgrow5 (own_ne_has I1.out HXX.out (by decide)); have hG5 := has_grown (I0.out.alloc _) hgrow5 (own_ne_has I1.out I0.out (by decide)); have hA5 := has_grown (I2.out.alloc _) hgrow5 (own_ne_has I1.out I2.out (by decide)); have HG5b := hid hG5; have HA5b := hid hA5; have zz : w5.cell? ⟨nbG, 0, none⟩ = some (.slice vo cg.length vc) := hG5.cell 0; have y1 : (w5.setCell ⟨nbG, 0, none⟩ (.slice vo5 (cg.length + 1) vc5)).cell? ⟨Bx, 1, none⟩ = some (.int .i64 (x.hi : Int)) := (hX5.far (by simp; omega) _).cell 1; have y2 : (w5.setCell ⟨nbG, 0, none⟩ (.slice vo5 (cg.length + 1) vc5)).cell? ⟨nbA, 0, none⟩ = some (.int .i64 (ca : Int)) := (hA5.far (by have := HNA.out; simp; omega) _).cell 0; have yf := hG5.frozen 0; have yg := (hA5.far (p := ⟨nbG, 0, none⟩) (by have := HNA.out; simp; omega) (.slice vo5 (cg.length + 1) vc5)).frozen 0; clear hown5 hgrow5 hX5 hG5 hA5)
      have HNG2 : nbG + 1 = nbA := HNA.out
      have HNG3 : w.heap.size = nbG := HNG.out
      have hgz : W.heap.size + 1 ≤ w5.heap.size := by have := HG5.out.size; simpa using this
      refine ⟨((KeepsOthers.alloc W _).trans ((KeepsOthers.of_grownBy HG5.out (fun j o e ho => ?_)).trans ((KeepsOthers.setCell _ _ _).trans (KeepsOthers.setCell _ _ _)))).from _, ((((Keeps.refl _ W).alloc _).trans (keeps_grown HG5.out (fun r e => .inr (.inr (own_ge I1.out e))))).setCell (.inl (.inl rfl)) _).setCell (.inl (.inr (.inl rfl))) _, ⟨.slice vo5 (cg.length + 1) vc5, ?_, ?_⟩, ?_, ?_, Below.setCell (Below.setCell (Below.trans (I4.out.alloc _) (Below.mono (own_grownJ I1.out HG5.out (by simp; omega)) hws)) (by simp; omega) _) (by simp; omega) _, by simp; omega⟩
      · obtain ⟨cur, hc⟩ := own_at (I1.out.alloc _) e
        rw [hc] at ho
        injection ho with ho
        rw [← ho]
        rfl
      · have hp := HG5b.out.put 0 (Value.slice vo5 (cg.length + 1) vc5)
        simp only [List.setIfInBounds_toArray, List.set_cons_zero] at hp
        exact hp.far (by simp; omega) _
      · rw [HQ.out, spanCells_snoc, List.length_append]
        exact own_keep HO5.out fun b hb => by
          have := own_ge HO5.out hb
          exact (Below.heap_setCell _ _ _ _ (by simp; omega)).trans (Below.heap_setCell _ _ _ _ (by simp; omega))
      · rw [HQ.out]
        have hp := (HA5b.out.far (p := ⟨nbG, 0, none⟩) (by simp; omega) (.slice vo5 (cg.length + 1) vc5)).put 0 (Value.int .i64 (x.hi : Int))
        simp only [List.setIfInBounds_toArray, List.set_cons_zero] at hp
        exact hp
      · rw [HQ.out, List.length_append, List.length_append]
        have := I3.out
        simp
        omega
    · have hli : ¬ (ca : Int) < x.lo := by omega
      have hst : gapS (cg, ca) x = (cg, x.hi) := if_neg hlt2
      have HQ := hid (HCC.out.trans hst)
      clear hst
      gi_wp2
      have HNG2 : nbG + 1 = nbA := HNA.out
      have HNG3 : w.heap.size = nbG := HNG.out
      refine ⟨(KeepsOthers.setCell _ _ _).from _, (Keeps.refl _ W).setCell (.inl (.inr (.inl rfl))) _, ⟨_, I0.out.far (by simp; omega) _, ?_⟩, ?_, ?_, Below.setCell I4.out (by simp; omega) _, by simp; omega⟩
      · rw [HQ.out]
        exact own_keep I1.out fun b hb => Below.heap_setCell _ _ _ _ (by have := own_ge I1.out hb; simp; omega)
      · rw [HQ.out]
        have hp := I2.out.put 0 (Value.int .i64 (x.hi : Int))
        simp only [List.setIfInBounds_toArray, List.set_cons_zero] at hp
        exact hp
      · rw [HQ.out, List.length_append]
        exact Nat.le_trans I3.out (by omega)
  case done =>
    rintro D ys W hD rfl ⟨⟨v, i0', i1⟩, i2, i3, i4, i5⟩ hK
    rw [← gapGo_over hR] at i1 i2 i3
    obtain ⟨vo, vc, rfl⟩ := own_slice i1
    have hl6 : (gapGo L lo hi).1.length ≤ 1000000 := Nat.le_trans i3 (Nat.le_trans (over_le L lo hi) h9)
    have a0 : W.cell? ⟨nbA, 0, none⟩ = some (.int .i64 ((gapGo L lo hi).2 : Nat)) := i2.cell 0
    have g0 : W.cell? ⟨nbG, 0, none⟩ = some (.slice vo (gapGo L lo hi).1.length vc) := i0'.cell 0
    have f1 := i0'.frozen 0
    have I0 := hid i0'
    have I1 := hid i1
    have I4 := hid i4
    have HR := hid (show rgaps L lo hi = if (gapGo L lo hi).2 < hi then (gapGo L lo hi).1 ++ [((gapGo L lo hi).2, hi)] else (gapGo L lo hi).1 from rfl)
    generalize gapGo L lo hi = G at *
    obtain ⟨gl', gf⟩ := G
    clear i0' i1 i2 i3 i4
    dsimp only at *
    by_cases a1 : gf < hi
    · have i1 : (gf : Int) < hi := by omega
      have HR2 := hid (HR.out.trans (if_pos a1))
      go_wp2_with (at_builtin; refine wpList_append_own_at _ rfl (.tmp 39) (.tmp 43) 22 rfl w2.heap.size 31 i0 (.agg #[.int .i64 0, .int .i64 0]) 2 16 Try.underlying22 hinf hz0 hz1 hz2 rfl (by decide) (.slice vo gl'.length vc) gl'.length (spanCells gl') rfl (I1.out.alloc _) ⟨W.heap.size, 0, none⟩ 1 1 [.int .i64 gf, .int .i64 hi] rfl rfl (own_two _ _ _ _) (by intro u hu; simp at hu; rcases hu with rfl | rfl <;> rfl) (by unfold maxLen; omega) (by omega) (by simp only [World.size_alloc]; omega) ?_; intro v' w5 hown5 hgrow5 _ _; obtain ⟨vo5, vc5, rfl⟩ := own_slice hown5; have HO5 := hid hown5; have HG5 := hid hgrow5; have hG5 := has_grown (I0.out.alloc _) hgrow5 (own_ne_has I1.out I0.out (by decide)); have HG5b := hid hG5; have zz : w5.cell? ⟨nbG, 0, none⟩ = some (.slice vo gl'.length vc) := hG5.cell 0; have zp := (hG5.put 0 (.slice vo5 (gl'.length + 1) vc5)).cell 0; simp only [List.setIfInBounds_toArray, List.set_cons_zero] at zp; have zq : (w5.setCell ⟨nbG, 0, none⟩ (.slice vo5 (gl'.length + 1) vc5)).cell? ⟨nbG, 0, none⟩ = some (.slice vo5 (gl'.length + 1) vc5) := zp; have yf := hG5.frozen 0; clear hown5 hgrow5 hG5 zp)
      have HNG3 : w.heap.size = nbG := HNG.out
      have hDl : D < W.heap.size := (Array.getElem?_eq_some_iff.1 hK).1
      have hKa : (W.alloc (.cells #[.int .i64 (gf : Int), .int .i64 (hi : Int)] 31)).heap[D]? = some (.deferred (some [])) := (Below.heap_alloc W _ D hDl).trans hK
      have hgz : W.heap.size + 1 ≤ w5.heap.size := by have := HG5.out.size; simpa using this
      have hK5 : w5.heap[D]? = some (.deferred (some [])) := (HG5.out.block D (by simp; omega) (fun e => by
        obtain ⟨cur, hc⟩ := own_at (I1.out.alloc _) e.symm
        rw [hc] at hKa
        injection hKa with h
        cases h)).trans hKa
      have hK6 : (w5.setCell ⟨nbG, 0, none⟩ (.slice vo5 (gl'.length + 1) vc5)).heap[D]? = some (.deferred (some [])) := (Below.heap_setCell _ _ _ _ (by simp; omega)).trans hK5
      refine ⟨by simp, .inl ⟨_, _, rfl, run_takeDeferred hK6, ?_⟩⟩
      have hB6 : Bw w (w5.setCell ⟨nbG, 0, none⟩ (.slice vo5 (gl'.length + 1) vc5)) := Below.setCell (Below.trans (I4.out.alloc _) (Below.mono (own_grownJ I1.out HG5.out (by simp; omega)) hws)) (by simp; omega) _
      refine ⟨_, results_tmp rfl _ _ _, _, rfl, ?_, ?_⟩
      · rw [HR2.out, spanCells_snoc, List.length_append]
        refine own_low hws (own_kept (own_keep HO5.out fun b hb => ?_) (grownBy_putObj' _ D _) (fun r e => by injection e with e; subst e; exact ⟨_, hK6, rfl⟩))
        have := own_ge HO5.out hb
        exact Below.heap_setCell _ _ _ _ (by simp; omega)
      · exact Below.grown hB6 (grownBy_putObj' _ D _) (by simp; omega) (fun r e => by injection e with e; omega)
    · have i1 : ¬ (gf : Int) < hi := by omega
      have HR2 := hid (HR.out.trans (if_neg a1))
      go_wp2
      refine ⟨by simp, .inl ⟨_, _, rfl, run_takeDeferred hK, ?_⟩⟩
      refine ⟨_, results_tmp rfl _ _ _, _, rfl, ?_, ?_⟩
      · rw [HR2.out]
        exact own_low hws (own_kept I1.out (grownBy_putObj' _ D _) (fun r e => by injection e with e; subst e; exact ⟨_, hK, rfl⟩))
      · exact Below.grown I4.out (grownBy_putObj' W D _) (by omega) (fun r e => by injection e with e; omega)
  case stop =>
    rintro D c pre W _ _ h _
    exact h.elim
set_option maxHeartbeats 4000000 in
theorem gaps_no (g : Nat) (lo hi : Int) (w : World) (hsp : spB lo hi = false) :
    Calls Try.prog 22 #[.pointer (some ⟨g, 0, none⟩), .int .i64 lo, .int .i64 hi] w fun e w' => e = .returned (.slice none 0 0) ∧ Bw w w' := by
  have HS := hid (fun W => isSpan_any lo hi W)
  rw [hsp] at HS
  go_enter Try.func22, Try.ntmps22
  go_wp2_with fail
  refine (HS.out _).mono ?_
  rintro e w1 ⟨rfl, rfl⟩
  go_wp2
  go_returns
  exact ⟨rfl, Bw.refl _⟩
end Go.Proofs.Ytemgdnloabefjaa
