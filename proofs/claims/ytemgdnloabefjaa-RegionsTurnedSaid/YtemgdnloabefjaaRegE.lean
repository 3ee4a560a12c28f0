/- Len and At (contracts of the functions). -/
import Derived.Test.YtemgdnloabefjaaRegC
namespace Go.Proofs.Ytemgdnloabefjaa
open Go.RowKit Go.Conc
set_option linter.unusedVariables false
set_option maxRecDepth 100000 in
set_option maxHeartbeats 4000000 in
theorem setlen_any (g : Nat) (L : List PartR) (h9 : L.length ≤ 1000000000) (w : World) (hs : SetAt w g L) :
    Calls Try.prog 54 #[.pointer (some ⟨g, 0, none⟩)] w fun e w' => e = .returned (.int .i64 L.length) ∧ Bw w w' := by
  obtain ⟨bv, hc, hb⟩ := hs
  rcases hb with ⟨rfl, rfl⟩ | ⟨ob, oc, ib, n, cap, rfl, h1, h2, h3, h4, h5, h6, h7⟩
  · have HL := hid (list_any g _ w hc)
    clear hc
    go_enter Try.func54, Try.ntmps54
    go_wp2_with fail
    refine HL.out.mono ?_
    rintro e w1 ⟨rfl, rfl⟩
    go_wp2
    go_loopw [3, 9] (fun n i wr => n = .int .i64 0 ∧ i = .int .i64 0 ∧ ∃ z, wr = w.drewN z) (fun n i _ => 0)
    case atStart => exact ⟨rfl, rfl, 0, rfl⟩
    case round =>
      obtain ⟨rfl, rfl, z, rfl⟩ := hrel
      go_wp2
      go_returns
      exact ⟨rfl, (Bw.refl w).drewN z⟩
  · have HL := hid (list_any g _ w hc)
    have H5 := hid h5
    have HR : Hid (Calls Try.prog 71 #[.pointer (some ⟨g, 0, none⟩)] w fun e w' => e = .returned (.slice (some ⟨ob, 0, none⟩) 1 oc) ∧ w = w') := HL
    have hgoal : (Calls Try.prog 54 #[.pointer (some ⟨g, 0, none⟩)] w fun e w' => e = .returned (.int .i64 n) ∧ Bw w w') := by
      have hn9 : n ≤ 1000000000 := by omega
      clear hc h5 h9 h7 HL
      go_enter Try.func54, Try.ntmps54
      go_wp2_with fail
      refine HR.out.mono ?_
      rintro e w1 ⟨rfl, rfl⟩
      go_wp2
      go_loopw [3, 9] (fun m i wr => ∃ a : Nat, a ≤ 1 ∧ i = .int .i64 a ∧ m = .int .i64 (a * n : Nat) ∧ ∃ z, wr = w.drewN z) (fun _ i _ => 1 - (intOf i).toNat)
      case atStart => exact ⟨0, by omega, rfl, by rw [Nat.zero_mul]; rfl, 0, rfl⟩
      case round =>
        obtain ⟨a, ha, rfl, rfl, z, rfl⟩ := hrel
        by_cases hlt : a < 1
        · have h40 : (w.drewN z).cell? ⟨ob, 0, none⟩ = some (.slice (some ⟨ib, 0, none⟩) n cap) := by simpa using h4
          obtain rfl : a = 0 := by omega
          rw [Nat.zero_mul]
          go_wp2
          go_roundw
          case rel => exact ⟨1, by omega, rfl, by rw [Nat.one_mul], z, rfl⟩
          case measure => simp [intOf]
        · obtain rfl : a = 1 := by omega
          rw [Nat.one_mul]
          go_wp2
          go_returns
          exact ⟨rfl, (Bw.refl w).drewN z⟩
    rwa [h5] at hgoal
/-- A block of two cells, each stored anew. -/
def put2 (w2 : World) (g : Nat) (x y : Value) : World := (w2.setCell ⟨g, 0, none⟩ x).setCell ⟨g, 1, none⟩ y
theorem has_put2 {w2 : World} {g : Nat} {t : TypeId} {a b : Value} (h : Has w2 g t #[a, b]) (x y : Value) :
    (put2 w2 g x y).cell? ⟨g, 0, none⟩ = some x ∧ (put2 w2 g x y).cell? ⟨g, 1, none⟩ = some y := by
  have h2 := (h.put 0 x).put 1 y
  exact ⟨(h2.cell 0).trans (by simp), (h2.cell 1).trans (by simp)⟩
theorem put2_bw {w w2 : World} (h : Bw w w2) (x y : Value) : Bw w (put2 w2 w.heap.size x y) :=
  Below.setCell (Below.setCell h (Nat.le_refl _) _) (Nat.le_refl _) _
/-- What At tells. -/
def atS (L : List PartR) (i : Int) : Value := if h : 0 ≤ i ∧ i.toNat < L.length then .agg #[.int .i64 (L[i.toNat]'h.2).lo, .int .i64 (L[i.toNat]'h.2).hi] else .agg #[.int .i64 0, .int .i64 0]
def atX (L : List PartR) (i : Int) : Int := if h : 0 ≤ i ∧ i.toNat < L.length then (L[i.toNat]'h.2).x else 0
def atB (L : List PartR) (i : Int) : Bool := decide (0 ≤ i ∧ i.toNat < L.length)
set_option maxRecDepth 100000 in
set_option maxHeartbeats 4000000 in
theorem at_any (g : Nat) (L : List PartR) (h9 : L.length ≤ 1000000000) (i : Int) (hi : i ≤ 1000000000) (w : World) (hs : SetAt w g L) :
    Calls Try.prog 53 #[.pointer (some ⟨g, 0, none⟩), .int .i64 i] w fun e w' => e = .returned (.tuple #[atS L i, .int .i64 (atX L i), .bool (atB L i)]) ∧ Bw w w' := by
  by_cases h0 : 0 ≤ i
  case neg =>
    have e1 : atS L i = .agg #[.int .i64 0, .int .i64 0] := dif_neg (fun h => h0 h.1)
    have e2 : atX L i = 0 := dif_neg (fun h => h0 h.1)
    have e3 : atB L i = false := decide_eq_false (fun h => h0 h.1)
    rw [e1, e2, e3]
    clear e1 e2 e3 hs
    go_enter Try.func53, Try.ntmps53
    go_wp2
    go_returns
    exact ⟨rfl, by first | exact Bw.refl w | exact (Bw.refl w).alloc _⟩
  obtain ⟨k, rfl⟩ : ∃ k : Nat, i = k := ⟨i.toNat, by omega⟩
  obtain ⟨bv, hc, hb⟩ := hs
  by_cases hk : k < L.length
  · rcases hb with ⟨rfl, rfl⟩ | ⟨ob, oc, ib, n, cap, rfl, h1, h2, h3, h4, h5, h6, h7⟩
    · simp at hk
    have e1 : atS L (k : Nat) = .agg #[.int .i64 (L[k]'hk).lo, .int .i64 (L[k]'hk).hi] := dif_pos ⟨h0, hk⟩
    have e2 : atX L (k : Nat) = (L[k]'hk).x := dif_pos ⟨h0, hk⟩
    have e3 : atB L (k : Nat) = true := decide_eq_true ⟨h0, hk⟩
    have hkn : k < n := by omega
    have hw0 : Bw w (w.alloc (.cells #[.int .i64 0, .int .i64 0] 31)) := (Bw.refl w).alloc _
    have HX := hid (Has.new w 31 #[.int .i64 0, .int .i64 0])
    have HP := hid (part_cells (hw0.own h7) h5 hkn)
    have H4 := hid (hw0.cell h4)
    have HL := hid (list_any g _ _ (hw0.cell hc))
    have HW := hid hw0
    rw [e1, e2, e3]
    generalize L[k]'hk = q at *
    have hk1 : (k : Int) < n := by omega
    clear e1 e2 e3 hc h5 h7 hk h9 hw0 h4
    go_enter Try.func53, Try.ntmps53
    go_wp2_with fail
    refine HL.out.mono ?_
    rintro e w1 ⟨rfl, rfl⟩
    generalize w.alloc (.cells #[.int .i64 0, .int .i64 0] 31) = W at *
    go_wp2
    go_loopw [1, 17] (fun m i wr => m = .int .i64 k ∧ i = .int .i64 0 ∧ ∃ z, wr = W.drewN z) (fun _ _ _ => 0)
    case atStart => exact ⟨rfl, rfl, 0, rfl⟩
    case round =>
      obtain ⟨rfl, rfl, z, rfl⟩ := hrel
      have h40 : (W.drewN z).cell? ⟨ob, 0, none⟩ = some (.slice (some ⟨ib, 0, none⟩) n cap) := by simpa using H4.out
      obtain ⟨d0, d1, d2⟩ := HP.out
      have d00 : (W.drewN z).cell? ⟨ib, k * 3, none⟩ = some (.int .i64 q.lo) := by simpa using d0
      have d10 : (W.drewN z).cell? ⟨ib, k * 3 + 1, none⟩ = some (.int .i64 q.hi) := by simpa using d1
      have d20 : (W.drewN z).cell? ⟨ib, k * 3 + 2, none⟩ = some (.int .i64 q.x) := by simpa using d2
      have c0 : W.cell? ⟨w.heap.size, 0, none⟩ = some (.int .i64 0) := HX.out.cell 0
      have c1 : W.cell? ⟨w.heap.size, 1, none⟩ = some (.int .i64 0) := HX.out.cell 1
      have f0 : W.frozen? ⟨w.heap.size, 0, none⟩ = false := HX.out.frozen 0
      have f1 : W.frozen? ⟨w.heap.size, 1, none⟩ = false := HX.out.frozen 1
      go_wp2
      go_region
      have HP3 := hid (has_put2 (HX.out.drewN (z + 1)) (.int .i64 q.lo) (.int .i64 q.hi))
      have HB3 := hid (put2_bw (HW.out.drewN (z + 1)) (.int .i64 q.lo) (.int .i64 q.hi))
      go_wp2
      obtain ⟨p0, p1⟩ := HP3.out
      unfold put2 at p0 p1 HB3
      generalize World.setCell (World.setCell (W.drewN (z + 1)) _ _) _ _ = W3 at *
      try simp only [Exit.inBlock, Exit.then]
      refine bodyPost_ret (by simp [results, Try.results53, go_sem, p0, p1]; try rfl) rfl ?_
      exact ⟨rfl, HB3.out⟩
  · have e1 : atS L (k : Nat) = .agg #[.int .i64 0, .int .i64 0] := dif_neg (fun h => hk h.2)
    have e2 : atX L (k : Nat) = 0 := dif_neg (fun h => hk h.2)
    have e3 : atB L (k : Nat) = false := decide_eq_false (fun h => hk h.2)
    have hw0 : Bw w (w.alloc (.cells #[.int .i64 0, .int .i64 0] 31)) := (Bw.refl w).alloc _
    have HX := hid (Has.new w 31 #[.int .i64 0, .int .i64 0])
    have HL := hid (list_any g _ _ (hw0.cell hc))
    have HW := hid hw0
    rw [e1, e2, e3]
    rcases hb with ⟨rfl, rfl⟩ | ⟨ob, oc, ib, n, cap, rfl, h1, h2, h3, h4, h5, h6, h7⟩
    · clear e1 e2 e3 hc hw0
      go_enter Try.func53, Try.ntmps53
      go_wp2_with fail
      refine HL.out.mono ?_
      rintro e w1 ⟨rfl, rfl⟩
      generalize w.alloc (.cells #[.int .i64 0, .int .i64 0] 31) = W at *
      go_wp2
      go_loopw [1, 17] (fun m i wr => m = .int .i64 k ∧ i = .int .i64 0 ∧ ∃ z, wr = W.drewN z) (fun _ _ _ => 0)
      case atStart => exact ⟨rfl, rfl, 0, rfl⟩
      case round =>
        obtain ⟨rfl, rfl, z, rfl⟩ := hrel
        have c0 : W.cell? ⟨w.heap.size, 0, none⟩ = some (.int .i64 0) := HX.out.cell 0
        have c1 : W.cell? ⟨w.heap.size, 1, none⟩ = some (.int .i64 0) := HX.out.cell 1
        have f0 : W.frozen? ⟨w.heap.size, 0, none⟩ = false := HX.out.frozen 0
        have f1 : W.frozen? ⟨w.heap.size, 1, none⟩ = false := HX.out.frozen 1
        have HP3 := hid (has_put2 (HX.out.drewN z) (.int .i64 0) (.int .i64 0))
        have HB3 := hid (put2_bw (HW.out.drewN z) (.int .i64 0) (.int .i64 0))
        go_wp2
        obtain ⟨p0, p1⟩ := HP3.out
        unfold put2 at p0 p1 HB3
        generalize World.setCell (World.setCell (W.drewN z) _ _) _ _ = W3 at *
        try simp only [Exit.inBlock, Exit.then]
        refine bodyPost_ret (by simp [results, Try.results53, go_sem, p0, p1]; try rfl) rfl ?_
        exact ⟨rfl, HB3.out⟩
    · have H4 := hid (hw0.cell h4)
      have hkn : n ≤ k := by omega
      clear e1 e2 e3 hc h5 h7 hk h9 hw0 h4
      go_enter Try.func53, Try.ntmps53
      go_wp2_with fail
      refine HL.out.mono ?_
      rintro e w1 ⟨rfl, rfl⟩
      generalize w.alloc (.cells #[.int .i64 0, .int .i64 0] 31) = W at *
      go_wp2
      go_loopw [1, 17] (fun m i wr => ∃ a : Nat, a ≤ 1 ∧ m = .int .i64 (k - (a * n : Nat) : Int) ∧ i = .int .i64 a ∧ ∃ z, wr = W.drewN z) (fun _ i _ => 1 - (intOf i).toNat)
      case atStart => exact ⟨0, by omega, by rw [Nat.zero_mul]; simp, rfl, 0, rfl⟩
      case round =>
        obtain ⟨a, ha, rfl, rfl, z, rfl⟩ := hrel
        have h40 : (W.drewN z).cell? ⟨ob, 0, none⟩ = some (.slice (some ⟨ib, 0, none⟩) n cap) := by simpa using H4.out
        have c0 : W.cell? ⟨w.heap.size, 0, none⟩ = some (.int .i64 0) := HX.out.cell 0
        have c1 : W.cell? ⟨w.heap.size, 1, none⟩ = some (.int .i64 0) := HX.out.cell 1
        have f0 : W.frozen? ⟨w.heap.size, 0, none⟩ = false := HX.out.frozen 0
        have f1 : W.frozen? ⟨w.heap.size, 1, none⟩ = false := HX.out.frozen 1
        by_cases hlt : a < 1
        · obtain rfl : a = 0 := by omega
          rw [Nat.zero_mul]
          have e0 : (k : Int) - (0 : Nat) = k := by omega
          rw [e0]
          have hnk : ¬ (k : Int) < n := by omega
          go_wp2
          go_roundw
          case rel => exact ⟨1, by omega, by rw [Nat.one_mul], rfl, z, rfl⟩
          case measure => simp [intOf]
        · obtain rfl : a = 1 := by omega
          rw [Nat.one_mul]
          have HP3 := hid (has_put2 (HX.out.drewN z) (.int .i64 0) (.int .i64 0))
          have HB3 := hid (put2_bw (HW.out.drewN z) (.int .i64 0) (.int .i64 0))
          go_wp2
          obtain ⟨p0, p1⟩ := HP3.out
          unfold put2 at p0 p1 HB3
          generalize World.setCell (World.setCell (W.drewN z) _ _) _ _ = W3 at *
          try simp only [Exit.inBlock, Exit.then]
          refine bodyPost_ret (by simp [results, Try.results53, go_sem, p0, p1]; try rfl) rfl ?_
          exact ⟨rfl, HB3.out⟩
end Go.Proofs.Ytemgdnloabefjaa
