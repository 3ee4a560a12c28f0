/- run: all blocks, and the panic that ends them recovered (contract of the method). -/
import Derived.Test.YtaihojjocmdgbaaDoorInfL
import Derived.Tactics
import Derived.Tactics2
import Derived.Defers
import Derived.Recover
import Derived.Laws.Pointers
namespace Go.Proofs.YtaihojjocmdgbaaDoor
open Go.RowKit Go.Conc
set_option linter.unusedVariables false
theorem run_assert_int {P : Program} {w : World} (t xT : TypeId) (k : IntKind) (v : Value) (h : P.underlying t = some (.int k)) : (Instr.typeAssert (.iface t v) xT t false).run P w = .ok v w := by
  simp [Instr.typeAssert, run_underlying h, go_sem, Result.andThen]
theorem catch_panicking (p : Addr) (x er : Int) (older : List PanicEntry) (w : World) (hc : w.cell? p = some (.int .i64 x)) (hz : w.frozen? p = false) :
    CallsD Tryd.prog 20 #[.pointer (some p)] (.panicking ({ v := .iface 23 (.int .i64 er), recovered := false } :: older)) w fun e u' w' =>
      e = .returned (.tuple #[]) ∧ u' = .panicking ({ v := .iface 23 (.int .i64 er), recovered := true } :: older) ∧ w' = w.setCell p (.int .i64 er) := by
  refine callsD_of_wpS Tryd.func20 rfl fun c₀ cs hu => ?_
  apply wpS_seq
  apply wpS_region
  simp [wpOpsS, go_sem, recoverD, hu, Tryd.ntmps20, Exit.thenS]
  apply wpS_seq
  apply wpS_region
  simp [wpOpsS, go_sem, Exit.thenS]
  refine wpS_cond (t := true) (by simp [Act.eval, Array.replicate]) ?_
  simp only [if_true]
  have hta := run_assert_int (P := Tryd.prog) (w := w) 23 20 .i64 (.int .i64 er) Tryd.underlying23
  apply wpS_region
  simp [wpOpsS, go_sem, hc, hz, hta, bodyPostS, results, Tryd.results20]
theorem catch_idle (p : Addr) (w : World) :
    CallsD Tryd.prog 20 #[.pointer (some p)] .returning w fun e u' w' => e = .returned (.tuple #[]) ∧ u' = .returning ∧ w' = w := by
  refine callsD_of_wpS Tryd.func20 rfl fun c₀ cs hu => ?_
  apply wpS_seq
  apply wpS_region
  simp [wpOpsS, go_sem, recoverD, hu, Tryd.ntmps20, Exit.thenS]
  apply wpS_seq
  apply wpS_region
  simp [wpOpsS, go_sem, Exit.thenS]
  refine wpS_cond (t := false) (by simp [Act.eval, Array.replicate]) ?_
  simp only [Bool.false_eq_true, if_false]
  refine wpS_of_wp (wp_skip ?_)
  cases c₀
  simp_all [bodyPostS, results, Tryd.results20]
/-- What run leaves. -/
def RunD (B : Nat) (w : World) (fb g : Nat) (s : ByteArray) (lim : Nat) (k : Nat) (out : List UInt8) (e : Ending) (w' : World) : Prop :=
  KT TI B w w' ∧ ((∃ er, Leads s lim (.go ⟨.top, k, out⟩) (.bad er) ∧ e = .returned (.int .i64 er)) ∨ (∃ k' out' v pl pd, Leads s lim (.go ⟨.top, k, out⟩) (.fin k' out') ∧ e = .returned (.int .i64 0) ∧ Inf B w' fb g s k' out' lim v pl pd))
theorem KT.fresh1 {T : List TypeId} {B nb : Nat} {a b : World} (h : KT T B a b) (hs : a.heap.size ≤ nb) (x : Value) : KT T B a (b.setCell ⟨nb, 0, none⟩ x) :=
  ⟨h.os, h.tape, h.output, by simpa [World.setCell] using h.size, fun i hi hn => (Below.heap_setCell b ⟨nb, 0, none⟩ x i (by show i ≠ nb; omega)).trans (h.block i hi hn)⟩
section
variable {B : Nat} {w : World} {fb g : Nat} {s : ByteArray} {k : Nat} {out : List UInt8} {lim : Nat} {v : Value} {pl pd : Option Addr}
set_option maxRecDepth 100000 in
set_option maxHeartbeats 4000000 in
theorem run_any (hs : s.size ≤ 281474976710656) (hl : lim ≤ 1073741824) (h : Inf B w fb g s k out lim v pl pd) :
    Calls Tryd.prog 17 #[.pointer (some ⟨fb, 0, none⟩)] w (RunD B w fb g s lim k out) := by
  have HI := hid h
  have hmf : ∀ (fn : Fn) (first cap : Array Value) (w : World), (Instr.makeFunc fn first cap).run Tryd.prog w = .ok (.func fn first cap) w := fun _ _ _ _ => rfl
  have HW := hid (show Bw w (w.alloc (.cells #[.int .i64 0] 23)) from (Bw.refl w).alloc _)
  have HN := hid (Has.new w 23 #[.int .i64 0])
  clear h
  go_enter_defers Tryd.func17, Tryd.ntmps17
  go_wp2_with fail
  have HI1 := hid (HI.out.bw HW.out)
  obtain ⟨nb, hnb⟩ : ∃ nb, w.heap.size = nb := ⟨_, rfl⟩
  rw [hnb] at HN ⊢
  have HNB := hid hnb
  generalize w.alloc (.cells #[.int .i64 0] 23) = W1 at *
  clear hnb
  refine (blocks_any hs hl HI1.out).mono ?_
  rintro e w2 ⟨hk2, hx⟩
  have HK2 := hid ((KT.of_bw HW.out : KT TI B w W1).trans hk2)
  have HN2 := hid (hk2.has HN.out (by decide))
  have g0 : w2.cell? ⟨nb, 0, none⟩ = some (.int .i64 0) := HN2.out.cell 0
  have f0 : w2.frozen? ⟨nb, 0, none⟩ = false := HN2.out.frozen 0
  clear hk2
  rcases hx with ⟨er, hLe, rfl⟩ | ⟨k', out', v', pl', pd', hLe, rfl, hi⟩
  · refine leaves_cons (f := 20) (args := #[.pointer (some ⟨nb, 0, none⟩)]) (by simp) (by simp [go_sem]) ?_
    refine (catch_panicking ⟨nb, 0, none⟩ 0 er [] _ g0 f0).mono ?_
    rintro e u' w'' ⟨rfl, rfl, rfl⟩
    have h1 : (w2.setCell ⟨nb, 0, none⟩ (.int .i64 er)).cell? ⟨nb, 0, none⟩ = some (.int .i64 er) := (HN2.out.put 0 (.int .i64 er)).cell 0
    have HP := hid (show RunD B w fb g s lim k out (.returned (.int .i64 er)) (w2.setCell ⟨nb, 0, none⟩ (.int .i64 er)) from ⟨HK2.out.fresh1 (by have := HNB.out; omega) _, .inl ⟨er, hLe, rfl⟩⟩)
    generalize w2.setCell ⟨nb, 0, none⟩ (.int .i64 er) = W3 at *
    simp [Leaves, settle, results, Tryd.results17, go_sem, h1]
    exact HP.out
  · have HI2 := hid hi
    have HL := hid hLe
    have h1 : (w2.setCell ⟨nb, 0, none⟩ (.int .i64 0)).cell? ⟨nb, 0, none⟩ = some (.int .i64 0) := (HN2.out.put 0 (.int .i64 0)).cell 0
    have hBn : B ≤ nb := by have h1 := HI.out.gb; have h2 := Has.lt HI.out.rd; have h3 := HNB.out; omega
    have HIX := hid (HI2.out.other ((KT.refl (T := [23]) (B := B) w2).setCell (p := ⟨nb, 0, none⟩) hBn (HN2.out.hot (by decide)) (.int .i64 0)) (by decide) (by decide) (by decide) (by decide) (by decide))
    have HP := hid (show RunD B w fb g s lim k out (.returned (.int .i64 0)) (w2.setCell ⟨nb, 0, none⟩ (.int .i64 0)) from ⟨HK2.out.fresh1 (by have := HNB.out; omega) _, .inr ⟨k', out', v', pl', pd', HL.out, rfl, HIX.out⟩⟩)
    clear hi hLe hBn
    go_wp2
    refine leaves_cons (f := 20) (args := #[.pointer (some ⟨nb, 0, none⟩)]) (by simp) (by simp [go_sem]) ?_
    refine (catch_idle ⟨nb, 0, none⟩ _).mono ?_
    rintro e u' w'' ⟨rfl, rfl, rfl⟩
    generalize w2.setCell ⟨nb, 0, none⟩ (.int .i64 0) = W3 at *
    simp [Leaves, settle, results, Tryd.results17, go_sem, h1]
    exact HP.out
end
end Go.Proofs.YtaihojjocmdgbaaDoor
