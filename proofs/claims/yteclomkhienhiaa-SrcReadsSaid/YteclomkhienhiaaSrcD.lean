/- What ReadAt returns for every source, place and number, and what it leaves; the source's other methods. -/
import Derived.Test.YteclomkhienhiaaSrcC
namespace Go.Proofs.Yteclomkhienhiaa
open Go.RowKit Go.Conc
set_option linter.unusedVariables false

set_option maxRecDepth 100000 in
set_option maxHeartbeats 1000000 in
theorem readAt_fault (F : Nat → Prop) (g c : Nat) (hgc : g ≠ c) (s : ByteArray) (hs : s.size ≤ 140737488351232) (rd : Value) (sp : List (Nat × Nat)) (l : List (Int × Int)) (x1 : Int) (hx : Hid (l.head?.getD (0, 0) = (2, x1)))
    (p q : Nat) (hq : q ≤ 1048576) (w : World) (hH : Has w g 71 #[.string s, .chan (some c), rd]) (hS : Script w c l) (hR : w.ownsRow 0 45 2 rd sp.length (spanCells sp)) (hFg : F g) (hFc : F c) (hFr : ∀ b, rd.ownBlock = some b → F b) :
    Calls Try.prog 14 #[.pointer (some ⟨g, 0, none⟩), .int .i64 p, .int .i64 q] w (ReadPost F g s l sp p ⟨#[]⟩ 7 w) := by
  have HH := hid hH
  have HS := hid hS
  have HR := hid hR
  have HF := hid hFr
  clear hH hS hR hFr
  have d1 : decide ((p : Int) < 0) = false := by simp
  have d2 : decide ((q : Int) < 0) = false := by simp
  have d3 : decide ((1048576 : Int) < q) = false := by simp; omega
  go_enter Try.func14, Try.ntmps14
  go_wp2_with fail
  refine (next_any g c hgc l 2 x1 hx.out _ HH.out.lt (HH.out.cell 1) HS.out).mono ?_
  rintro e w1 ⟨rfl, hS1, hK1⟩
  have hH1 := hK1.has HH.out hgc
  go_wp2
  go_returns
  have hW4 : Keeps F w (w1.alloc (.cells #[.int .i64 2, .int .i64 x1] 33)) := (hK1.mono (fun i _ h => by rw [h]; exact hFc)).alloc _
  have hS4 : Script (w1.alloc (.cells #[.int .i64 2, .int .i64 x1] 33)) c l.tail := (Keeps.of_bw (F := fun _ => False) (Bw.alloc (Bw.refl w1) (.cells #[.int .i64 2, .int .i64 x1] 33))).script hS1 (fun h => h)
  have hH4 : Has (w1.alloc (.cells #[.int .i64 2, .int .i64 x1] 33)) g 71 #[.string s, .chan (some c), rd] := hH1.alloc _
  have hR4 : (w1.alloc (.cells #[.int .i64 2, .int .i64 x1] 33)).ownsRow 0 45 2 rd sp.length (spanCells sp) := own_keep HR.out (fun b hb => by
    have hlt := own_lt HR.out hb
    have e1 := hK1.block b hlt (fun h => own_ne_script HR.out HS.out (by rw [hb, h]))
    have e2 := Below.block (Bw.alloc (Bw.refl w1) (.cells #[.int .i64 2, .int .i64 x1] 33)) b (Nat.lt_of_lt_of_le hlt hK1.size)
    exact e2.trans e1)
  exact finish_none hgc hFg hFc HF.out hH4 hS4 hR4 hW4 rfl

theorem far_empty (s : ByteArray) (p j : Nat) (h : s.size < p) : s.extract p (p + j) = ⟨#[]⟩ := by
  have hz : (s.extract p (p + j)).size = 0 := by simp; omega
  have h2 : (s.extract p (p + j)).data = #[] := Array.eq_empty_of_size_eq_zero hz
  calc s.extract p (p + j) = ⟨(s.extract p (p + j)).data⟩ := rfl
    _ = ⟨#[]⟩ := by rw [h2]
set_option maxRecDepth 100000 in
set_option maxHeartbeats 1000000 in
theorem readAt_far (F : Nat → Prop) (g c : Nat) (hgc : g ≠ c) (s : ByteArray) (hs : s.size ≤ 140737488351232) (rd : Value) (sp : List (Nat × Nat)) (l : List (Int × Int)) (x0 : Int) (x1 : Nat) (hx : Hid (l.head?.getD (0, 0) = (x0, (x1 : Int)))) (hx2 : (x0 == 2) = false)
    (p q : Nat) (hq : q ≤ 1048576) (hp : s.size < p) (w : World) (hH : Has w g 71 #[.string s, .chan (some c), rd]) (hS : Script w c l) (hR : w.ownsRow 0 45 2 rd sp.length (spanCells sp)) (hFg : F g) (hFc : F c) (hFr : ∀ b, rd.ownBlock = some b → F b) :
    Calls Try.prog 14 #[.pointer (some ⟨g, 0, none⟩), .int .i64 p, .int .i64 q] w (ReadPost F g s l sp p (rdV s p q x0 x1) (rdE s.size p q x0 x1) w) := by
  have hk : rdK s.size p q = 0 := by unfold rdK; omega
  have HV : Hid (rdV s p q x0 x1 = ⟨#[]⟩) := hid (by rw [rdV, if_neg (by rw [hk]; omega)]; exact far_empty s p _ hp)
  have HE0 : Hid (q = 0 → rdE s.size p q x0 x1 = 0) := hid (fun h => by rw [rdE, if_neg (by rw [hk]; omega), hk, if_neg (by omega)])
  have HE2 : Hid (0 < q → rdE s.size p q x0 x1 = 2) := hid (fun h => by rw [rdE, if_neg (by rw [hk]; omega), hk, if_pos h])
  clear hk
  have HH := hid hH
  have HS := hid hS
  have HR := hid hR
  have HF := hid hFr
  clear hH hS hR hFr
  have d1 : decide ((p : Int) < 0) = false := by simp
  have d2 : decide ((q : Int) < 0) = false := by simp
  have d3 : decide ((1048576 : Int) < q) = false := by simp; omega
  go_enter Try.func14, Try.ntmps14
  go_wp2_with fail
  refine (next_any g c hgc l x0 x1 hx.out _ HH.out.lt (HH.out.cell 1) HS.out).mono ?_
  rintro e w1 ⟨rfl, hS1, hK1⟩
  have hH1 := hK1.has HH.out hgc
  have hH2 := hH1.alloc (.cells #[.int .i64 x0, .int .i64 x1] 33)
  have t0 : (w1.alloc (.cells #[.int .i64 x0, .int .i64 x1] 33)).cell? ⟨g, 0, none⟩ = some (.string s) := hH2.cell 0
  go_wp2_with fail
  go_quiet (fail)
  have hW4 : Keeps F w ((w1.alloc (.cells #[.int .i64 x0, .int .i64 x1] 33)).drewN nq) := ((hK1.mono (fun i _ h => by rw [h]; exact hFc)).alloc _).drewN _
  have hS4 : Script ((w1.alloc (.cells #[.int .i64 x0, .int .i64 x1] 33)).drewN nq) c l.tail := (Keeps.of_bw (F := fun _ => False) ((Bw.alloc (Bw.refl w1) (.cells #[.int .i64 x0, .int .i64 x1] 33)).drewN nq)).script hS1 (fun h => h)
  have hH4 : Has ((w1.alloc (.cells #[.int .i64 x0, .int .i64 x1] 33)).drewN nq) g 71 #[.string s, .chan (some c), rd] := hH2.drewN nq
  have hR4 : ((w1.alloc (.cells #[.int .i64 x0, .int .i64 x1] 33)).drewN nq).ownsRow 0 45 2 rd sp.length (spanCells sp) := own_keep HR.out (fun b hb => by
    have hlt := own_lt HR.out hb
    have e1 := hK1.block b hlt (fun h => own_ne_script HR.out HS.out (by rw [hb, h]))
    have e2 := Below.block ((Bw.alloc (Bw.refl w1) (.cells #[.int .i64 x0, .int .i64 x1] 33)).drewN nq) b (Nat.lt_of_lt_of_le hlt hK1.size)
    exact e2.trans e1)
  have hX4 : Has ((w1.alloc (.cells #[.int .i64 x0, .int .i64 x1] 33)).drewN nq) w1.heap.size 33 #[.int .i64 x0, .int .i64 x1] := (Has.new w1 _ _).drewN nq
  generalize (w1.alloc (.cells #[.int .i64 x0, .int .i64 x1] 33)).drewN nq = W4 at *
  have HS4 := hid hS4
  have HR4 := hid hR4
  have HK4 := hid hW4
  have y0 : W4.cell? ⟨w1.heap.size, 0, none⟩ = some (.int .i64 x0) := hX4.cell 0
  have y1 : W4.cell? ⟨w1.heap.size, 1, none⟩ = some (.int .i64 x1) := hX4.cell 1
  clear hS4 hR4 hX4 hW4 hS1 hK1 hH1 hH2 t0
  rename_i K hK
  refine hK _ _ ?_
  clear hK
  have hy : ¬ ((x1 : Int) < 0) := by omega
  by_cases h0 : 0 < q
  · by_cases h1 : (x0 == 1) = true
    · go_wp2
      go_returns
      rw [HV.out, HE2.out h0]
      exact finish_none hgc hFg hFc HF.out hH4 HS4.out HR4.out HK4.out rfl
    · have h1f : (x0 == 1) = false := by simpa using h1
      clear h1
      go_wp2
      go_returns
      rw [HV.out, HE2.out h0]
      exact finish_none hgc hFg hFc HF.out hH4 HS4.out HR4.out HK4.out rfl
  · obtain rfl : q = 0 := by omega
    by_cases h1 : (x0 == 1) = true
    · go_wp2
      go_returns
      rw [HV.out, HE0.out (by simp)]
      exact finish_none hgc hFg hFc HF.out hH4 HS4.out HR4.out HK4.out rfl
    · have h1f : (x0 == 1) = false := by simpa using h1
      clear h1
      go_wp2
      go_returns
      rw [HV.out, HE0.out (by simp)]
      exact finish_none hgc hFg hFc HF.out hH4 HS4.out HR4.out HK4.out rfl

/-- What ReadAt tells, with which error, and which steps it leaves. -/
def rdAll (s : ByteArray) (l : List (Int × Int)) (a n : Int) : ByteArray × Int × List (Int × Int) :=
  if a < 0 ∨ n < 0 ∨ 1048576 < n then (⟨#[]⟩, 1, l)
  else if (l.head?.getD (0, 0)).1 = 2 then (⟨#[]⟩, 7, l.tail)
  else (rdV s a.toNat n.toNat (l.head?.getD (0, 0)).1 (l.head?.getD (0, 0)).2.toNat, rdE s.size a.toNat n.toNat (l.head?.getD (0, 0)).1 (l.head?.getD (0, 0)).2.toNat, l.tail)
def RdAny (F : Nat → Prop) (g : Nat) (s : ByteArray) (l : List (Int × Int)) (sp : List (Nat × Nat)) (a n : Int) (w : World) (e : Ending) (w' : World) : Prop :=
  ∃ F', e = .returned (.tuple #[.string (rdAll s l a n).1, .int .i64 (rdAll s l a n).2.1]) ∧ SrcF F' w' g s (rdAll s l a n).2.2 (rdSp sp a.toNat (rdAll s l a n).1) ∧ Keeps F w w' ∧ ∀ i, F' i → F i ∨ (w.heap.size ≤ i ∧ i < w'.heap.size)
theorem readAt_any (F : Nat → Prop) (g : Nat) (s : ByteArray) (hs : s.size ≤ 140737488351232) (sp : List (Nat × Nat)) (hsp : sp.length ≤ 1000000000) (l : List (Int × Int)) (hok : OkAll l) (a n : Int) (w : World) (h : SrcF F w g s l sp) :
    Calls Try.prog 14 #[.pointer (some ⟨g, 0, none⟩), .int .i64 a, .int .i64 n] w (RdAny F g s l sp a n w) := by
  by_cases hbad : a < 0 ∨ n < 0 ∨ 1048576 < n
  · refine (readAt_bad g a n hbad w).mono fun e w' ⟨he, hw⟩ => ?_
    subst he hw
    refine ⟨F, ?_, ?_, Keeps.refl _ _, fun i hi => .inl hi⟩
    · rw [rdAll, if_pos hbad]
    · rw [rdAll, if_pos hbad]; exact h
  · obtain ⟨c, rd, hFg, hFc, hFr, hgc, hH, hS, hR⟩ := h
    obtain ⟨p, rfl⟩ := Int.eq_ofNat_of_zero_le (show 0 ≤ a by omega)
    obtain ⟨q, rfl⟩ := Int.eq_ofNat_of_zero_le (show 0 ≤ n by omega)
    obtain ⟨x0, x1, hx⟩ : ∃ x0 x1, l.head?.getD (0, 0) = (x0, x1) := ⟨_, _, rfl⟩
    have hstep : okStep (x0, x1) := by
      cases l with
      | nil => simp at hx; obtain ⟨rfl, rfl⟩ := hx; exact .inl ⟨.inl rfl, rfl⟩
      | cons y l => simp at hx; exact hx ▸ hok y (List.mem_cons_self ..)
    by_cases h2 : x0 = 2
    · subst h2
      have e : rdAll s l p q = (⟨#[]⟩, 7, l.tail) := by rw [rdAll, if_neg hbad, hx, if_pos rfl]
      refine (readAt_fault F g c hgc s hs rd sp l x1 (hid hx) p q (by omega) w hH hS hR hFg hFc hFr).mono fun e' w' h => ?_
      unfold RdAny
      rw [e]
      exact h
    · have hx1 : 0 ≤ x1 := by
        rcases hstep with ⟨_, h⟩ | ⟨_, h⟩
        · show 0 ≤ x1
          have : x1 = 0 := h
          omega
        · exact h
      obtain ⟨y, rfl⟩ := Int.eq_ofNat_of_zero_le hx1
      have e : rdAll s l p q = (rdV s p q x0 y, rdE s.size p q x0 y, l.tail) := by
        rw [rdAll, if_neg hbad, hx, if_neg h2]; rfl
      have h2b : (x0 == 2) = false := by simpa using h2
      by_cases hp : p ≤ s.size
      · refine (readAt_x F g c hgc s hs rd sp hsp l x0 y (hid hx) h2b p q (by omega) hp w hH hS hR hFg hFc hFr).mono fun e' w' h => ?_
        unfold RdAny
        rw [e]
        exact h
      · refine (readAt_far F g c hgc s hs rd sp l x0 y (hid hx) h2b p q (by omega) (by omega) w hH hS hR hFg hFc hFr).mono fun e' w' h => ?_
        unfold RdAny
        rw [e]
        exact h
set_option maxHeartbeats 400000 in
theorem left_nil (w : World) : Calls Try.prog 16 #[.pointer none] w fun e w' => e = .returned (.int .i64 0) ∧ w = w' := by
  go_enter Try.func16, Try.ntmps16
  go_wp2
  go_returns
  exact ⟨rfl, rfl⟩
set_option maxHeartbeats 400000 in
theorem len_nil (w : World) : Calls Try.prog 19 #[.pointer none] w fun e w' => e = .returned (.int .i64 0) ∧ w = w' := by
  go_enter Try.func19, Try.ntmps19
  go_wp2
  go_returns
  exact ⟨rfl, rfl⟩
set_option maxHeartbeats 400000 in
theorem reads_nil (w : World) : Calls Try.prog 17 #[.pointer none] w fun e w' => e = .returned (.slice none 0 0) ∧ w = w' := by
  go_enter Try.func17, Try.ntmps17
  go_wp2
  go_returns
  exact ⟨rfl, rfl⟩
set_option maxHeartbeats 400000 in
theorem left_any (F : Nat → Prop) (g : Nat) (s : ByteArray) (sp : List (Nat × Nat)) (l : List (Int × Int)) (w : World) (h : SrcF F w g s l sp) :
    Calls Try.prog 16 #[.pointer (some ⟨g, 0, none⟩)] w fun e w' => e = .returned (.int .i64 l.length) ∧ w = w' := by
  obtain ⟨c, rd, hFg, hFc, hFr, hgc, hH, hS, hR⟩ := h
  obtain ⟨cap, sn, rn, hc⟩ := hS
  have hlen := fun ty => run_len_chan (P := Try.prog) 68 ty Try.underlying68 hc
  have c1 : w.cell? ⟨g, 1, none⟩ = some (.chan (some c)) := hH.cell 1
  simp only [List.size_toArray, List.length_map, goInt] at hlen
  clear hc hH hR
  go_enter Try.func16, Try.ntmps16
  go_wp2
  go_returns
  exact ⟨rfl, rfl⟩
set_option maxHeartbeats 400000 in
theorem slen_any (F : Nat → Prop) (g : Nat) (s : ByteArray) (hs : s.size ≤ 140737488351232) (sp : List (Nat × Nat)) (l : List (Int × Int)) (w : World) (h : SrcF F w g s l sp) :
    Calls Try.prog 19 #[.pointer (some ⟨g, 0, none⟩)] w fun e w' => e = .returned (.int .i64 s.size) ∧ w = w' := by
  obtain ⟨c, rd, hFg, hFc, hFr, hgc, hH, hS, hR⟩ := h
  have c1 : w.cell? ⟨g, 0, none⟩ = some (.string s) := hH.cell 0
  clear hH hR hS
  go_enter Try.func19, Try.ntmps19
  go_wp2
  go_returns
  exact ⟨rfl, rfl⟩
set_option maxRecDepth 100000 in
set_option maxHeartbeats 1000000 in
theorem full_nil (a n : Int) (w : World) : Calls Try.prog 12 #[.pointer none, .int .i64 a, .int .i64 n] w fun e w' => e = .returned (.tuple #[.string ⟨#[]⟩, .int .i64 1]) ∧ Bw w w' := by
  go_enter Try.func12, Try.ntmps12
  go_wp2_with fail
  refine wp_loop_rounds 1 ?_
  rw [rounds_succ]
  go_wp2_with (first | (go_at_call 14; refine (readAt_nil _ _ _).mono ?_; rintro e w' ⟨rfl, rfl⟩) | go_in)
  go_returns
  exact ⟨rfl, by unfold Bw; go_grown⟩

end Go.Proofs.Yteclomkhienhiaa
