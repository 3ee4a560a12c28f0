/- first (for spans without values). -/
import Derived.Test.YtciaebhkemdilabRvB
namespace Go.Proofs.Ytciaebhkemdilab
open Go.RowKit Go.Conc
set_option linter.unusedVariables false
set_option linter.unusedSimpArgs false
set_option maxRecDepth 100000 in
theorem search_ret (p : Option Addr) (n c : Nat) (w : World) :
    Calls Try.prog 68 #[.slice p n c] w fun e w' => ∃ b1 : Nat, e = .returned (.func (.func 73) #[] #[.pointer (some ⟨b1, 0, none⟩)]) ∧ w'.cell? ⟨b1, 0, none⟩ = some (.slice p n c) ∧ Bw w w' := by
  have h1 : (w.alloc (.cells #[.slice p n c] 101)).cell? ⟨w.heap.size, 0, none⟩ = some (.slice p n c) := (Has.new w _ #[.slice p n c]).cell 0
  have h2 : Bw w (w.alloc (.cells #[.slice p n c] 101)) := (Bw.refl w).alloc _
  have H1 := hid h1
  have H2 := hid h2
  clear h1 h2
  go_enter Try.func68, Try.ntmps68
  go_wp2
  go_ret
  exact ⟨w.heap.size, rfl, H1.out, H2.out⟩
/-- A set in memory: its block g, and what is in it. -/
def SetAt (w : World) (g : Nat) (L : List PartR) : Prop := ∃ bv, w.cell? ⟨g, 0, none⟩ = some bv ∧ BlocksAt w bv L
theorem BlocksAt.bw {w w' : World} {bv : Value} {L : List PartR} (h : BlocksAt w bv L) (hb : Bw w w') : BlocksAt w' bv L := by
  rcases h with h | ⟨ob, oc, ib, n, cap, e, h1, h2, h3, h4, h5, h6, h7⟩
  · exact .inl h
  · exact .inr ⟨ob, oc, ib, n, cap, e, h1, h2, Nat.lt_of_lt_of_le h3 hb.size, hb.cell h4, h5, h6, hb.own h7⟩
theorem SetAt.bw {w w' : World} {g : Nat} {L : List PartR} (h : SetAt w g L) (hb : Bw w w') : SetAt w' g L := by
  obtain ⟨bv, h1, h2⟩ := h
  exact ⟨bv, hb.cell h1, h2.bw hb⟩
/-- A block of three cells, each stored anew. -/
def put2 (w2 : World) (g : Nat) (x y : Value) : World := (w2.setCell ⟨g, 0, none⟩ x).setCell ⟨g, 1, none⟩ y
theorem has_put2 {w2 : World} {g : Nat} {t : TypeId} {a b : Value} (h : Has w2 g t #[a, b]) (x y : Value) :
    (put2 w2 g x y).cell? ⟨g, 0, none⟩ = some x ∧ (put2 w2 g x y).cell? ⟨g, 1, none⟩ = some y := by
  have h2 := (h.put 0 x).put 1 y
  exact ⟨(h2.cell 0).trans (by simp), (h2.cell 1).trans (by simp)⟩
theorem put2_bw {w w2 : World} (h : Bw w w2) (x y : Value) : Bw w (put2 w2 w.heap.size x y) :=
  Below.setCell (Below.setCell h (Nat.le_refl _) _) (Nat.le_refl _) _
/-- The value of a part. -/
def partV (p : PartR) : Value := .agg #[.int .i64 p.lo, .int .i64 p.hi]
def noneV : Value := .agg #[.int .i64 0, .int .i64 0]
def firstV (L : List PartR) (a : Int) : Value := if h : fstI L a < L.length then partV L[fstI L a] else noneV
def firstB (L : List PartR) (a : Int) : Bool := decide (fstI L a < L.length)
set_option maxRecDepth 100000 in
set_option maxHeartbeats 4000000 in
theorem first_any (g : Nat) (L : List PartR) (hR : Rising L) (h9 : L.length ≤ 1000000000) (a : Int) (w : World) (hs : SetAt w g L) :
    Calls Try.prog 67 #[.pointer (some ⟨g, 0, none⟩), .int .i64 a] w fun e w' => e = .returned (.tuple #[firstV L a, .bool (firstB L a)]) ∧ Bw w w' := by
  obtain ⟨bv, hc, hb⟩ := hs
  rcases hb with ⟨rfl, rfl⟩ | ⟨ob, oc, ib, n, cap, rfl, h1, h2, h3, h4, h5, h6, h7⟩
  · have e1 : firstV [] a = noneV := rfl
    have e2 : firstB [] a = false := rfl
    have hw1 : Bw w (w.alloc (.cells #[.int .i64 0, .int .i64 0] 111)) := (Bw.refl w).alloc _
    rw [e1, e2]
    have HC := hid hc
    have HW1 := hid hw1
    clear hc hw1 e1 e2 h9 hR
    go_enter Try.func67, Try.ntmps67
    go_wp2_with fail
    refine (list_any g _ _ (HW1.out.cell HC.out)).mono ?_
    rintro e w1 ⟨rfl, rfl⟩
    go_wp2_with fail
    refine (search_ret none 0 0 _).mono ?_
    rintro e w1 ⟨b1, rfl, hk, hb⟩
    have HB := hid hb
    clear hb
    go_wp2_with fail
    refine (sea_nil b1 a w1 hk).mono ?_
    rintro e w2 ⟨rfl, hb⟩
    have HX := ((HB.out.trans hb).has (Has.new w 111 #[.int .i64 0, .int .i64 0]))
    have HB2 := hid ((HW1.out.trans HB.out).trans hb)
    have c0 : w2.cell? ⟨w.heap.size, 0, none⟩ = some (.int .i64 0) := HX.cell 0
    have c1 : w2.cell? ⟨w.heap.size, 1, none⟩ = some (.int .i64 0) := HX.cell 1
    have f0 := HX.frozen 0
    have f1 := HX.frozen 1
    have HP3 := hid (has_put2 HX (.int .i64 0) (.int .i64 0))
    have HB3 := hid (put2_bw HB2.out (.int .i64 0) (.int .i64 0))
    clear hb hk HX
    go_wp2
    obtain ⟨p0, p1⟩ := HP3.out
    unfold put2 at p0 p1 HB3
    generalize World.setCell (World.setCell w2 _ _) _ _ = W3 at *
    try simp only [Exit.inBlock, Exit.then]
    refine bodyPost_ret (by simp [results, Try.results67, go_sem, p0, p1]; try rfl) rfl ?_
    exact ⟨rfl, HB3.out⟩
  · have hw1 : Bw w (w.alloc (.cells #[.int .i64 0, .int .i64 0] 111)) := (Bw.refl w).alloc _
    have HC := hid hc
    have HW1 := hid hw1
    have H4 := hid h4
    have H5 := hid h5
    have H7 := hid h7
    have hfl := fst_le L a
    clear hc hw1 h4 h7 h3
    by_cases hf : fstI L a < L.length
    · have e1 : firstV L a = partV L[fstI L a] := dif_pos hf
      have e2 : firstB L a = true := decide_eq_true hf
      have e3 : seaB L a = 0 := if_pos hf
      have e4 : seaI L a = fstI L a := if_pos hf
      have hse : ∀ b1 w1, w1.cell? ⟨b1, 0, none⟩ = some (.slice (some ⟨ob, 0, none⟩) 1 oc) → Bw w w1 → Calls Try.prog 73 #[.int .i64 a, .pointer (some ⟨b1, 0, none⟩)] w1 fun e w' => e = .returned (.tuple #[.int .i64 (0 : Nat), .int .i64 (fstI L a : Nat)]) ∧ Bw w1 w' := fun b1 w1 hk hb => by
        have := sea_some b1 ob oc ib n cap L hR a h1 h5 h6 (by omega) w1 hk (hb.cell H4.out) (hb.own H7.out)
        rwa [e3, e4] at this
      have HSE := hid hse
      rw [e1, e2]
      clear e1 e2 e3 e4 hse
      obtain ⟨j, hj⟩ : ∃ j, fstI L a = j := ⟨_, rfl⟩
      have hjn : j < n := by omega
      have hp := fun W (hb : Bw w W) => part_cells (hb.own H7.out) h5 (i := j) hjn
      have epj : partV L[fstI L a] = .agg #[.int .i64 (L[j]'(by omega)).lo, .int .i64 (L[j]'(by omega)).hi] := by
        subst hj; rfl
      rw [epj]
      rw [hj] at HSE
      clear epj
      generalize L[j]'(by omega) = q at *
      have HP := hid hp
      clear hp hj hf h5 hfl
      go_enter Try.func67, Try.ntmps67
      go_wp2_with fail
      refine (list_any g _ _ (HW1.out.cell HC.out)).mono ?_
      rintro e w1 ⟨rfl, rfl⟩
      go_wp2_with fail
      refine (search_ret _ 1 oc _).mono ?_
      rintro e w1 ⟨b1, rfl, hk, hb⟩
      have HQ := hid hb
      have HB := hid (HW1.out.trans hb)
      clear hb
      go_wp2_with fail
      refine (HSE.out b1 w1 hk HB.out).mono ?_
      rintro e w2 ⟨rfl, hb⟩
      have HB2 := hid (HB.out.trans hb)
      have hc1 := HB2.out.cell H4.out
      obtain ⟨d0, d1⟩ := HP.out w2 HB2.out
      have HX := ((HQ.out.trans hb).has (Has.new w 111 #[.int .i64 0, .int .i64 0]))
      have c0 : w2.cell? ⟨w.heap.size, 0, none⟩ = some (.int .i64 0) := HX.cell 0
      have c1 : w2.cell? ⟨w.heap.size, 1, none⟩ = some (.int .i64 0) := HX.cell 1
      have f0 := HX.frozen 0
      have f1 := HX.frozen 1
      have HP3 := hid (has_put2 HX (.int .i64 q.lo) (.int .i64 q.hi))
      have HB3 := hid (put2_bw HB2.out (.int .i64 q.lo) (.int .i64 q.hi))
      clear hb hk HX
      go_wp2
      obtain ⟨p0, p1⟩ := HP3.out
      unfold put2 at p0 p1 HB3
      generalize World.setCell (World.setCell w2 _ _) _ _ = W3 at *
      try simp only [Exit.inBlock, Exit.then]
      refine bodyPost_ret (by simp [results, Try.results67, go_sem, p0, p1]; try rfl) rfl ?_
      exact ⟨rfl, HB3.out⟩
    · have e1 : firstV L a = noneV := dif_neg hf
      have e2 : firstB L a = false := decide_eq_false hf
      have e3 : seaB L a = 1 := (if_neg hf).trans (if_neg (by omega))
      have e4 : seaI L a = 0 := if_neg hf
      have hse : ∀ b1 w1, w1.cell? ⟨b1, 0, none⟩ = some (.slice (some ⟨ob, 0, none⟩) 1 oc) → Bw w w1 → Calls Try.prog 73 #[.int .i64 a, .pointer (some ⟨b1, 0, none⟩)] w1 fun e w' => e = .returned (.tuple #[.int .i64 (1 : Nat), .int .i64 (0 : Nat)]) ∧ Bw w1 w' := fun b1 w1 hk hb => by
        have := sea_some b1 ob oc ib n cap L hR a h1 h5 h6 (by omega) w1 hk (hb.cell H4.out) (hb.own H7.out)
        rwa [e3, e4] at this
      have HSE := hid hse
      rw [e1, e2]
      clear e1 e2 e3 e4 hse hf h5 hfl
      go_enter Try.func67, Try.ntmps67
      go_wp2_with fail
      refine (list_any g _ _ (HW1.out.cell HC.out)).mono ?_
      rintro e w1 ⟨rfl, rfl⟩
      go_wp2_with fail
      refine (search_ret _ 1 oc _).mono ?_
      rintro e w1 ⟨b1, rfl, hk, hb⟩
      have HQ := hid hb
      have HB := hid (HW1.out.trans hb)
      clear hb
      go_wp2_with fail
      refine (HSE.out b1 w1 hk HB.out).mono ?_
      rintro e w2 ⟨rfl, hb⟩
      have HB2 := hid (HB.out.trans hb)
      have HX := ((HQ.out.trans hb).has (Has.new w 111 #[.int .i64 0, .int .i64 0]))
      have c0 : w2.cell? ⟨w.heap.size, 0, none⟩ = some (.int .i64 0) := HX.cell 0
      have c1 : w2.cell? ⟨w.heap.size, 1, none⟩ = some (.int .i64 0) := HX.cell 1
      have f0 := HX.frozen 0
      have f1 := HX.frozen 1
      have HP3 := hid (has_put2 HX (.int .i64 0) (.int .i64 0))
      have HB3 := hid (put2_bw HB2.out (.int .i64 0) (.int .i64 0))
      clear hb hk HX
      go_wp2
      obtain ⟨p0, p1⟩ := HP3.out
      unfold put2 at p0 p1 HB3
      generalize World.setCell (World.setCell w2 _ _) _ _ = W3 at *
      try simp only [Exit.inBlock, Exit.then]
      refine bodyPost_ret (by simp [results, Try.results67, go_sem, p0, p1]; try rfl) rfl ?_
      exact ⟨rfl, HB3.out⟩
end Go.Proofs.Ytciaebhkemdilab
