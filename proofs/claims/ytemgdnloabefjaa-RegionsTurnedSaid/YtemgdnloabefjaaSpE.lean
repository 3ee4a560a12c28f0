/- At (of a span that is in) (for spans whose values are spans). -/
import Derived.Test.YtemgdnloabefjaaSpA
namespace Go.Proofs.Ytemgdnloabefjaa.Sp
open Go.RowKit Go.Conc Go.Lib
set_option linter.unusedVariables false
set_option maxRecDepth 100000 in
set_option maxHeartbeats 4000000 in
theorem at_in (g : Nat) (L : List PartR) (h9 : L.length ≤ 1000000000) (k : Nat) (hk : k < L.length) (w : World) (hs : SetAt w g L) :
    Calls Try.prog 30 #[.pointer (some ⟨g, 0, none⟩), .int .i64 k] w fun e w' => e = .returned (.tuple #[.agg #[.int .i64 (L[k]'hk).lo, .int .i64 (L[k]'hk).hi], .agg #[.int .i64 (L[k]'hk).lo, .int .i64 (L[k]'hk).hi], .bool true]) ∧ Bw w w' := by
  obtain ⟨bv, hc, hb⟩ := hs
  rcases hb with ⟨rfl, rfl⟩ | ⟨ob, oc, ib, n, cap, rfl, h1, h2, h3, h4, h5, h6, h7⟩
  · simp at hk
  have hkn : k < n := by omega
  have hw0 : Bw w (((w.alloc (.cells #[.int .i64 0, .int .i64 0] 31)).alloc (.cells #[.int .i64 0, .int .i64 0] 31)).alloc (.cells #[.int .i64 0, .int .i64 0] 31)) := (((Bw.refl w).alloc _).alloc _).alloc _
  have HX4 : Hid (Has (((w.alloc (.cells #[.int .i64 0, .int .i64 0] 31)).alloc (.cells #[.int .i64 0, .int .i64 0] 31)).alloc (.cells #[.int .i64 0, .int .i64 0] 31)) w.heap.size 31 #[.int .i64 0, .int .i64 0]) := hid (((Has.new w 31 #[.int .i64 0, .int .i64 0]).alloc _).alloc _)
  have HX5 : Hid (Has (((w.alloc (.cells #[.int .i64 0, .int .i64 0] 31)).alloc (.cells #[.int .i64 0, .int .i64 0] 31)).alloc (.cells #[.int .i64 0, .int .i64 0] 31)) (w.heap.size + 1) 31 #[.int .i64 0, .int .i64 0]) := hid (by
    have h := (Has.new (w.alloc (.cells #[.int .i64 0, .int .i64 0] 31)) 31 #[.int .i64 0, .int .i64 0]).alloc (.cells #[.int .i64 0, .int .i64 0] 31)
    simpa using h)
  have HP := hid (part_cells (hw0.own h7) h5 hkn)
  have H4 := hid (hw0.cell h4)
  have HL := hid (list_any g _ _ (hw0.cell hc))
  have HW := hid hw0
  generalize L[k]'hk = q at *
  have hk1 : (k : Int) < n := by omega
  clear hc h5 h7 hk h9 hw0 h4
  go_enter Try.func30, Try.ntmps30
  go_wp2_with fail
  refine HL.out.mono ?_
  rintro e w1 ⟨rfl, rfl⟩
  generalize ((w.alloc (.cells #[.int .i64 0, .int .i64 0] 31)).alloc (.cells #[.int .i64 0, .int .i64 0] 31)).alloc (.cells #[.int .i64 0, .int .i64 0] 31) = W at *
  go_wp2
  go_loopw [1, 17] (fun m i wr => m = .int .i64 k ∧ i = .int .i64 0 ∧ ∃ z, wr = W.drewN z) (fun _ _ _ => 0)
  case atStart => exact ⟨rfl, rfl, 0, rfl⟩
  case round =>
    obtain ⟨rfl, rfl, z, rfl⟩ := hrel
    have h40 : (W.drewN z).cell? ⟨ob, 0, none⟩ = some (.slice (some ⟨ib, 0, none⟩) n cap) := by simpa using H4.out
    obtain ⟨d0, d1, d2, d3⟩ := HP.out
    have d00 : (W.drewN z).cell? ⟨ib, k * 4, none⟩ = some (.int .i64 q.lo) := by simpa using d0
    have d10 : (W.drewN z).cell? ⟨ib, k * 4 + 1, none⟩ = some (.int .i64 q.hi) := by simpa using d1
    have d20 : (W.drewN z).cell? ⟨ib, k * 4 + 2, none⟩ = some (.int .i64 q.lo) := by simpa using d2
    have d30 : (W.drewN z).cell? ⟨ib, k * 4 + 3, none⟩ = some (.int .i64 q.hi) := by simpa using d3
    have c0 : W.cell? ⟨w.heap.size, 0, none⟩ = some (.int .i64 0) := HX4.out.cell 0
    have c1 : W.cell? ⟨w.heap.size, 1, none⟩ = some (.int .i64 0) := HX4.out.cell 1
    have f0 : W.frozen? ⟨w.heap.size, 0, none⟩ = false := HX4.out.frozen 0
    have f1 : W.frozen? ⟨w.heap.size, 1, none⟩ = false := HX4.out.frozen 1
    have c2 : W.cell? ⟨w.heap.size + 1, 0, none⟩ = some (.int .i64 0) := HX5.out.cell 0
    have c3 : W.cell? ⟨w.heap.size + 1, 1, none⟩ = some (.int .i64 0) := HX5.out.cell 1
    have f2 : W.frozen? ⟨w.heap.size + 1, 0, none⟩ = false := HX5.out.frozen 0
    have f3 : W.frozen? ⟨w.heap.size + 1, 1, none⟩ = false := HX5.out.frozen 1
    go_wp2
    go_region
    have HP4 := hid (has_put2 (HX4.out.drewN (z + 1)) (.int .i64 q.lo) (.int .i64 q.hi))
    have HH4 := hid (((((HX4.out.drewN (z + 1)).put 0 (.int .i64 q.lo)).put 1 (.int .i64 q.hi)).far (p := ⟨w.heap.size + 1, 0, none⟩) (by simp) (.int .i64 q.lo)).far (p := ⟨w.heap.size + 1, 1, none⟩) (by simp) (.int .i64 q.hi))
    have HH5 := hid (((((HX5.out.drewN (z + 1)).far (p := ⟨w.heap.size, 0, none⟩) (by simp) (.int .i64 q.lo)).far (p := ⟨w.heap.size, 1, none⟩) (by simp) (.int .i64 q.hi)).put 0 (.int .i64 q.lo)).put 1 (.int .i64 q.hi))
    have HB5 := hid (put2_bw (HW.out.drewN (z + 1)) (.int .i64 q.lo) (.int .i64 q.hi))
    unfold put2 at HB5
    have HB6 := hid (Below.setCell (Below.setCell HB5.out (Nat.le_succ w.heap.size) (p := ⟨w.heap.size + 1, 0, none⟩) (.int .i64 q.lo)) (Nat.le_succ w.heap.size) (p := ⟨w.heap.size + 1, 1, none⟩) (.int .i64 q.hi))
    clear HP4 HB5 c0 c1 c2 c3 f0 f1 f2 f3 h40 d00 d10 d20 d30 d0 d1 d2 d3
    go_wp2
    generalize World.setCell (World.setCell (World.setCell (World.setCell (W.drewN (z + 1)) _ _) _ _) _ _) _ _ = W3 at *
    have p0 : W3.cell? ⟨w.heap.size, 0, none⟩ = some (.int .i64 q.lo) := (HH4.out.cell 0).trans (by simp)
    have p1 : W3.cell? ⟨w.heap.size, 1, none⟩ = some (.int .i64 q.hi) := (HH4.out.cell 1).trans (by simp)
    have p2 : W3.cell? ⟨w.heap.size + 1, 0, none⟩ = some (.int .i64 q.lo) := (HH5.out.cell 0).trans (by simp)
    have p3 : W3.cell? ⟨w.heap.size + 1, 1, none⟩ = some (.int .i64 q.hi) := (HH5.out.cell 1).trans (by simp)
    try simp only [Exit.inBlock, Exit.then]
    refine bodyPost_ret (by simp [results, Try.results30, go_sem, p0, p1, p2, p3]; try rfl) rfl ?_
    exact ⟨rfl, HB6.out⟩
end Go.Proofs.Ytemgdnloabefjaa.Sp
