/- The set's Covered (contract of the function). -/
import Derived.Test.YtemgdnloabefjaaRegM
namespace Go.Proofs.Ytemgdnloabefjaa
open Go.RowKit Go.Conc
set_option linter.unusedVariables false
attribute [local go_sem] Oper.semAt_some
theorem over_stops (F : Nat → Prop) (m gs gl gh g : Nat) (hm : 1 ≤ m) (L : List PartR) (hR : Rising L) (h9 : L.length ≤ 1000000) (lo hi : Int) (w0 w : World) (hS : SetAt w0 g L) (hb : Bw w0 w) (hO : OverAt w g gs gl gh lo hi) (hF : ∀ i, F i → w0.heap.size ≤ i) (hgh : ¬ F gh) :
    SeqStopsK Fence.wide m Try.prog 75 #[.pointer (some ⟨gs, 0, none⟩), .pointer (some ⟨gl, 0, none⟩), .pointer (some ⟨gh, 0, none⟩)] (fun p : PartR => #[partV p]) (Keeps F) (fun ys => ys = overL L lo hi) (fun _ => True) 1000000 w := fun l J Jx W hW hJ hJx hY h0 => by
  have hO2 : OverAt W g gs gl gh lo hi := ⟨Bw.cell hW hO.1, Bw.cell hW hO.2.1, Bw.cell hW hO.2.2⟩
  have hw0W : Bw w0 W := hb.trans hW
  obtain ⟨bv, hc, hbl⟩ := hS
  rcases hbl with ⟨rfl, rfl⟩ | ⟨ob, oc, ib, n, cap, rfl, h1, h2, h3, h4, h5, h6, h7⟩
  · refine (over1_nil m l gs gl gh g hm lo hi W.heap.size J hJ W hO2 (hw0W.cell hc) h0).mono ?_
    rintro e W' ⟨he, hj⟩
    exact ⟨he, .inl ⟨[], rfl, hj⟩⟩
  · have hcap : n ≤ cap := by
      rcases h7.2 with ⟨h, _⟩ | ⟨g', c', cur, h, _, _, hnc, _⟩
      · cases h
      · injection h with _ _ h; omega
    refine (over1_some F m l gs gl gh g hm L hR lo hi W.heap.size J Jx hJ W hO2 ob oc ib n cap h1 h5 h6 (by omega) hcap (hw0W.cell hc) (hw0W.cell h4) (hw0W.own h7) hgh (fun h => by have := hF _ h; omega) (fun h => by have := hF _ h; have := own_lt h7 (b := ib) rfl; omega) hY h0).mono ?_
    rintro e W' ⟨he, ⟨ys, h, hj⟩ | ⟨pre, hj⟩⟩
    · exact ⟨he, .inl ⟨ys, h, hj⟩⟩
    · exact ⟨he, .inr ⟨pre, trivial, hj⟩⟩
/-- One span's part, in the set's own arithmetic. -/
def ccovS (lo hi : Int) (m : Int) (p : PartR) : Int := wrap64 (m + wrap64 (min (p.hi : Int) hi - max (p.lo : Int) lo))
def ccov (lo hi : Int) (l : List PartR) : Int := l.foldl (ccovS lo hi) 0
theorem ccov_snoc (lo hi : Int) (l : List PartR) (p : PartR) : ccov lo hi (l ++ [p]) = ccovS lo hi (ccov lo hi l) p := by unfold ccov; rw [List.foldl_append]; rfl
theorem ccov_eq {M : List PartR} (hR : Rising M) (lo hi : Nat) (h : lo < hi) (h2 : hi ≤ 4611686018427387904) (hm : ∀ p ∈ M, lo < p.hi ∧ p.lo < hi) : ccov lo hi M = (covN M lo hi : Nat) := by
  have key : ∀ n, n ≤ M.length → ccov lo hi (M.take n) = (covN (M.take n) lo hi : Nat) := by
    intro n
    induction n with
    | zero => intro _; rfl
    | succ n ih =>
      intro hn
      have hn' : n < M.length := by omega
      have hl2 := covN_le (rising_take hR (n + 1)) lo hi (by omega) 0 (fun _ _ => Nat.zero_le _)
      have ha := hR.all n hn'
      have hmm := hm _ (List.getElem_mem hn')
      rw [List.take_succ_eq_append_getElem hn', ccov_snoc, ih (by omega), covN_snoc] 
      rw [List.take_succ_eq_append_getElem hn', covN_snoc] at hl2
      generalize covN (M.take n) lo hi = m at *
      generalize M[n] = p at *
      unfold covP at hl2 ⊢
      unfold ccovS
      have hx : max p.lo lo ≤ min p.hi hi := by omega
      have hm9 : m + (min p.hi hi - max p.lo lo) ≤ 4611686018427387904 := by omega
      have hx9 : min p.hi hi ≤ 4611686018427387904 := by omega
      have e1 : min (p.hi : Int) hi = (min p.hi hi : Nat) := by omega
      have e2 : max (p.lo : Int) lo = (max p.lo lo : Nat) := by omega
      rw [e1, e2]
      generalize min p.hi hi = a at *
      generalize max p.lo lo = b at *
      clear e1 e2 hl2 ha hmm
      have e3 : wrap64 ((a : Int) - b) = (a : Int) - b := wrap64_id (by omega) (by omega)
      rw [e3]
      have e4 : wrap64 ((m : Int) + ((a : Int) - b)) = (m : Int) + ((a : Int) - b) := wrap64_id (by omega) (by omega)
      rw [e4]; omega
  have := key M.length (Nat.le_refl _)
  rwa [List.take_length] at this
theorem over_mem {L : List PartR} (hR : Rising L) (lo hi : Nat) : ∀ p ∈ overL L lo hi, lo < p.hi ∧ p.lo < hi := fun p hp => by
  rw [over_filter hR] at hp
  have := (List.mem_filter.1 hp).2
  unfold meetB at this
  rw [Bool.and_eq_true, decide_eq_true_eq, decide_eq_true_eq] at this
  omega
theorem over_rising {L : List PartR} (hR : Rising L) (lo hi : Int) : Rising (overL L lo hi) := by
  unfold overL
  have h := hR.drop (fstI L lo)
  generalize L.drop (fstI L lo) = D at *
  have : ∃ n, D.takeWhile (fun p => decide ((p.lo : Int) < hi)) = D.take n := by
    clear h
    induction D with
    | nil => exact ⟨0, rfl⟩
    | cons p D ih =>
      obtain ⟨n, hn⟩ := ih
      by_cases h : (p.lo : Int) < hi
      · exact ⟨n + 1, by rw [List.takeWhile_cons_of_pos (by simpa using h), List.take_succ_cons, hn]⟩
      · exact ⟨0, by rw [List.takeWhile_cons_of_neg (by simpa using h)]; rfl⟩
  obtain ⟨n, hn⟩ := this
  rw [hn]
  exact rising_take h n
theorem ccov_over {L : List PartR} (hR : Rising L) (lo hi : Nat) (h : lo < hi) (h2 : hi ≤ 4611686018427387904) : ccov lo hi (overL L lo hi) = (covN L lo hi : Nat) := by
  rw [ccov_eq (over_rising hR lo hi) lo hi h h2 (over_mem hR lo hi), covN_over hR]
theorem has_kept {A B : World} {g : Nat} {t : TypeId} {cs : Array Value} {row : Option Nat} (h : Has A g t cs) (hg : A.grownBy B row) (hr : ∀ r, row = some r → ∃ o : Obj, A.heap[r]? = some o ∧ o.isCells = false) : Has B g t cs :=
  has_grown h hg (fun e => by
    obtain ⟨o, ho, hc⟩ := hr g e
    have h2 : A.heap[g]? = some (.cells cs t (0, 0)) := h
    rw [h2] at ho
    injection ho with ho
    subst ho
    cases hc)
theorem keeps_grown {F : Nat → Prop} {A B : World} {row : Option Nat} (hg : A.grownBy B row) (hr : ∀ r, row = some r → F r) : Keeps F A B :=
  ⟨hg.os, hg.tape, hg.output, hg.size, fun i hi hn => hg.block i hi (fun e => hn (hr i e.symm))⟩
set_option maxRecDepth 100000 in
set_option maxHeartbeats 4000000 in
theorem covered_ok (g : Nat) (L : List PartR) (hR : Rising L) (h9 : L.length ≤ 1000000) (lo hi : Nat) (w : World) (hs : SetAt w g L) (hsp : spB lo hi = true) :
    Calls Try.prog 20 #[.pointer (some ⟨g, 0, none⟩), .int .i64 lo, .int .i64 hi] w fun e w' => e = .returned (.int .i64 (covN L lo hi : Nat)) ∧ Bw w w' := by
  have HS := hid (fun W => isSpan_any lo hi W)
  rw [hsp] at HS
  have HO := hid (fun W => over_ret g lo hi W)
  have HSET := hid hs
  clear hs
  refine (callsIn_wide (n := 5)).1 ?_
  refine callsIn_of_wp_marks Try.func20 rfl trivial ?_
  simp only [Try.ntmps20, List.size_toArray, List.length_cons, List.length_nil, Nat.reduceAdd, Nat.reduceSub, Array.replicate_succ, Array.replicate_zero, List.push_toArray, List.append_toArray, List.nil_append, List.cons_append]
  refine wpIn_wide.2 ?_
  go_wp2_with fail
  refine (HS.out _).mono ?_
  rintro e w1 ⟨rfl, rfl⟩
  have hn0 := Has.new w 3 #[.int .i64 (lo : Int)]
  have hn1 := Has.new (w.alloc (.cells #[.int .i64 (lo : Int)] 3)) 3 #[.int .i64 (hi : Int)]
  have hn2 := Has.new ((w.alloc (.cells #[.int .i64 (lo : Int)] 3)).alloc (.cells #[.int .i64 (hi : Int)] 3)) 3 #[.int .i64 0]
  simp only [World.size_alloc] at hn1 hn2
  have HX := hid (⟨(hn0.alloc _).alloc _, hn1.alloc _, hn2⟩ : Has (((w.alloc (.cells #[.int .i64 (lo : Int)] 3)).alloc (.cells #[.int .i64 (hi : Int)] 3)).alloc (.cells #[.int .i64 0] 3)) w.heap.size 3 #[.int .i64 (lo : Int)] ∧ Has (((w.alloc (.cells #[.int .i64 (lo : Int)] 3)).alloc (.cells #[.int .i64 (hi : Int)] 3)).alloc (.cells #[.int .i64 0] 3)) (w.heap.size + 1) 3 #[.int .i64 (hi : Int)] ∧ Has (((w.alloc (.cells #[.int .i64 (lo : Int)] 3)).alloc (.cells #[.int .i64 (hi : Int)] 3)).alloc (.cells #[.int .i64 0] 3)) (w.heap.size + 1 + 1) 3 #[.int .i64 0])
  have HB1 := hid ((((Bw.refl w).alloc (.cells #[.int .i64 (lo : Int)] 3)).alloc (.cells #[.int .i64 (hi : Int)] 3)).alloc (.cells #[.int .i64 0] 3))
  clear hn0 hn1 hn2
  go_wp2_with fail
  generalize ((w.alloc (.cells #[.int .i64 (lo : Int)] 3)).alloc (.cells #[.int .i64 (hi : Int)] 3)).alloc (.cells #[.int .i64 0] 3) = W1 at *
  refine (HO.out _).mono ?_
  rintro e w2 ⟨gs, gl, gh, rfl, ho, hb2⟩
  have HO2 := hid ho
  have HB2 := hid (HB1.out.trans hb2)
  have HX2 := hid (⟨hb2.has HX.out.1, hb2.has HX.out.2.1, hb2.has HX.out.2.2⟩ : Has w2 w.heap.size 3 #[.int .i64 (lo : Int)] ∧ Has w2 (w.heap.size + 1) 3 #[.int .i64 (hi : Int)] ∧ Has w2 (w.heap.size + 1 + 1) 3 #[.int .i64 0])
  clear ho hb2
  go_wp2_with fail
  obtain ⟨nb, hnb⟩ : ∃ nb, w.heap.size + 1 + 1 = nb := ⟨_, rfl⟩
  rw [hnb] at HX2 ⊢
  have HNB := hid hnb
  obtain ⟨hsp1, hsp2, hsp3⟩ := of_decide_eq_true hsp
  have hgh : gh ≠ nb := fun e => by
    have h1 := HO2.out.2.2
    have h2 := HX2.out.2.2.cell 0
    rw [e, h2] at h1
    have h3 : some (Value.int .i64 0) = some (Value.int .i64 (hi : Int)) := h1
    injection h3 with h3
    injection h3 with _ h3
    omega
  have hghl : gh < w2.heap.size := cell_lt HO2.out.2.2
  have hnbl : nb < w2.heap.size := HX2.out.2.2.lt
  have hws : w.heap.size ≤ w2.heap.size := HB2.out.size
  clear hnb
  refine wpIn_wide.1 (wpIn_rangeFunc_ownH (F := Fence.wide) (n := 5) rfl (by omega) (gf := 75) (lb := #[.pointer (some ⟨gs, 0, none⟩), .pointer (some ⟨gl, 0, none⟩), .pointer (some ⟨gh, 0, none⟩)]) rfl trivial (enters_of Try.func75 (by kernel_rfl) rfl)
    (over_stops (fun i => i = nb ∨ w2.heap.size ≤ i) 4 gs gl gh g (by omega) L hR h9 lo hi w w2 HSET.out HB2.out HO2.out (fun i hi => by have := HNB.out; omega) (fun h => by omega))
    (fun h k => Keeps.trans h k) (fun W l o o' hl h _ _ => keeps_grown (grownBy_putObj' W l o') (fun r e => by injection e with e; omega)) (Below.refl _ _) (fun _ => rfl)
    (fun pre W => Has W nb 3 #[.int .i64 (ccov lo hi pre)] ∧ Has W w.heap.size 3 #[.int .i64 (lo : Int)] ∧ Has W (w.heap.size + 1) 3 #[.int .i64 (hi : Int)] ∧ Bw w W ∧ w2.heap.size ≤ W.heap.size)
    (fun _ _ _ => False) ?hI ?hIx ⟨HX2.out.2.2, HX2.out.1, HX2.out.2.1, HB2.out, Nat.le_refl _⟩
    (fun x a' W => ∃ Bx : Nat, w2.heap.size ≤ Bx ∧ Has W Bx 83 #[.int .i64 (x.lo : Int), .int .i64 (x.hi : Int), .int .i64 x.x] ∧ a' = { tmps := #[.pointer (some ⟨g, 0, none⟩), .int .i64 (lo : Int), .int .i64 (hi : Int), undef, .pointer (some ⟨w.heap.size, 0, none⟩), .pointer (some ⟨w.heap.size + 1, 0, none⟩), .int .i64 0, .pointer (some ⟨nb, 0, none⟩), .pointer (some ⟨Bx, 0, none⟩), .int .i64 (lo : Int), .int .i64 (hi : Int), .bool true, .bool false, .pointer (some ⟨g, 0, none⟩), .int .i64 (lo : Int), .int .i64 (hi : Int), .func (.func 75) #[] #[.pointer (some ⟨gs, 0, none⟩), .pointer (some ⟨gl, 0, none⟩), .pointer (some ⟨gh, 0, none⟩)], partV x, undef, undef, undef, undef, undef, undef, undef, undef, undef, undef, undef, undef, undef, undef], defers := [] })
    ?hAx ?assign ?body ?done ?stop)
  case hI =>
    exact fun s A B row hs hg hr => ⟨has_kept hs.1 hg (fun r e => (hr r e).2), has_kept hs.2.1 hg (fun r e => (hr r e).2), has_kept hs.2.2.1 hg (fun r e => (hr r e).2), ownFrom_below (β := Unit) (n₀ := w.heap.size) (Nat.le_refl _) hws () A B row hs.2.2.2.1 hg hr, Nat.le_trans hs.2.2.2.2 hg.size⟩
  case hIx => exact fun _ _ _ _ _ hs _ _ => hs
  case hAx =>
    rintro x a' _ A B row ⟨Bx, h1, h2, h3⟩ hg hr
    exact ⟨Bx, h1, has_kept h2 hg (fun r e => (hr r e).2), h3⟩
  case assign =>
    rintro l pre x W K ⟨i1, i2, i3, i4, i5⟩ hK
    have hK2 := hK { tmps := #[.pointer (some ⟨g, 0, none⟩), .int .i64 (lo : Int), .int .i64 (hi : Int), undef, .pointer (some ⟨w.heap.size, 0, none⟩), .pointer (some ⟨w.heap.size + 1, 0, none⟩), .int .i64 0, .pointer (some ⟨nb, 0, none⟩), .pointer (some ⟨W.heap.size, 0, none⟩), .int .i64 (lo : Int), .int .i64 (hi : Int), .bool true, .bool false, .pointer (some ⟨g, 0, none⟩), .int .i64 (lo : Int), .int .i64 (hi : Int), .func (.func 75) #[] #[.pointer (some ⟨gs, 0, none⟩), .pointer (some ⟨gl, 0, none⟩), .pointer (some ⟨gh, 0, none⟩)], partV x, undef, undef, undef, undef, undef, undef, undef, undef, undef, undef, undef, undef, undef, undef], defers := [] } (W.alloc (.cells #[.int .i64 (x.lo : Int), .int .i64 (x.hi : Int), .int .i64 x.x] 83)) ((KeepsOthers.alloc _ _).from _) ((Keeps.refl _ W).alloc _) ⟨i1.alloc _, i2.alloc _, i3.alloc _, i4.alloc _, by simp only [World.size_alloc]; omega⟩ ⟨W.heap.size, i5, Has.new W _ _, rfl⟩
    have HK := hid hK2
    clear hK hK2 i1 i2 i3 i4
    unfold partV at *
    gi_wp2
    exact HK.out
  case body =>
    rintro l pre x a' W hl hr ⟨i1, i2, i3, i4, i5⟩ ⟨Bx, hBx, hX, rfl⟩ hlt
    have a0 : W.cell? ⟨nb, 0, none⟩ = some (.int .i64 (ccov lo hi pre)) := i1.cell 0
    have a1 : W.cell? ⟨w.heap.size, 0, none⟩ = some (.int .i64 (lo : Int)) := i2.cell 0
    have a2 : W.cell? ⟨w.heap.size + 1, 0, none⟩ = some (.int .i64 (hi : Int)) := i3.cell 0
    have x0 : W.cell? ⟨Bx, 0, none⟩ = some (.int .i64 (x.lo : Int)) := hX.cell 0
    have x1 : W.cell? ⟨Bx, 1, none⟩ = some (.int .i64 (x.hi : Int)) := hX.cell 1
    have f0 := i1.frozen 0
    have I1 := hid i1
    have I2 := hid i2
    have I3 := hid i3
    have I4 := hid i4
    have HCC := hid (ccov_snoc lo hi pre x)
    generalize ccov lo hi pre = cc at *
    clear i1 i2 i3 i4 hX hr
    gi_wp2
    all_goals
      have HNB2 : nb = w.heap.size + 1 + 1 := HNB.out.symm
      refine ⟨(KeepsOthers.setCell _ _ _).from _, (Keeps.refl _ W).setCell (.inl (.inl rfl)) _, ?_, I2.out.far (by simp; omega) _, I3.out.far (by simp; omega) _, Below.setCell I4.out (by simp; omega) _, by simp; omega⟩
      have hp := I1.out.put 0 (Value.int .i64 (ccov lo hi (pre ++ [x])))
      rw [HCC.out] at hp ⊢
      unfold ccovS at hp ⊢
      simp only [List.setIfInBounds_toArray, List.set_cons_zero] at hp
      first
        | rw [show min (x.hi : Int) hi = hi by omega, show max (x.lo : Int) lo = lo by omega] at hp ⊢
        | rw [show min (x.hi : Int) hi = hi by omega, show max (x.lo : Int) lo = x.lo by omega] at hp ⊢
        | rw [show min (x.hi : Int) hi = x.hi by omega, show max (x.lo : Int) lo = lo by omega] at hp ⊢
        | rw [show min (x.hi : Int) hi = x.hi by omega, show max (x.lo : Int) lo = x.lo by omega] at hp ⊢
      exact hp
  case done =>
    rintro D ys W hD rfl ⟨i1, i2, i3, i4, i5⟩ hK
    have a0 : W.cell? ⟨nb, 0, none⟩ = some (.int .i64 (covN L lo hi : Nat)) := by rw [← ccov_over hR lo hi (by omega) (by omega)]; exact i1.cell 0
    have I4 := hid i4
    clear i1 i2 i3 i4
    go_wp2
    refine ⟨by simp, .inl ⟨_, _, rfl, run_takeDeferred hK, ?_⟩⟩
    refine ⟨_, results_tmp rfl _ _ _, rfl, ?_⟩
    exact Below.grown I4.out (grownBy_putObj' W D _) (by omega) (fun r e => by injection e with e; omega)
  case stop =>
    rintro D c pre W _ _ h _
    exact h.elim
set_option maxHeartbeats 4000000 in
theorem covered_no (g : Nat) (lo hi : Int) (w : World) (hsp : spB lo hi = false) :
    Calls Try.prog 20 #[.pointer (some ⟨g, 0, none⟩), .int .i64 lo, .int .i64 hi] w fun e w' => e = .returned (.int .i64 0) ∧ Bw w w' := by
  have HS := hid (fun W => isSpan_any lo hi W)
  rw [hsp] at HS
  go_enter Try.func20, Try.ntmps20
  go_wp2_with fail
  refine (HS.out _).mono ?_
  rintro e w1 ⟨rfl, rfl⟩
  go_wp2
  go_returns
  exact ⟨rfl, ((Bw.refl _).alloc _).alloc _⟩
end Go.Proofs.Ytemgdnloabefjaa
