/- The codes of two rows of lengths (contract of the function). -/
import Derived.Test.YtgchopfagobleaaDoorInfA
namespace Go.Proofs.YtgchopfagobleaaDoor
open Go.RowKit Go.Conc
set_option linter.unusedVariables false
theorem has_two {w : World} {g : Nat} {t : TypeId} {a b : Value} (h : Has w g t #[a, b]) (x y : Value) : Has ((w.setCell ⟨g, 0, none⟩ x).setCell ⟨g, 1, none⟩ y) g t #[x, y] := by
  have := (h.put 0 x).put 1 y
  simpa using this
theorem bw_two {w0 w : World} {g : Nat} (h : Bw w0 w) (hg : w0.heap.size ≤ g) (x y : Value) : Bw w0 ((w.setCell ⟨g, 0, none⟩ x).setCell ⟨g, 1, none⟩ y) :=
  Below.setCell (Below.setCell h hg x) hg y
/-- What newCodes leaves. -/
def NewC (l1 l2 : List Int) (w : World) (e : Ending) (w' : World) : Prop :=
  Bw w w' ∧ ((checkE l1 ≠ 0 ∧ e = pan (checkE l1)) ∨ (checkE l1 = 0 ∧ checkE l2 ≠ 0 ∧ e = pan (checkE l2)) ∨
    (checkE l1 = 0 ∧ checkE l2 = 0 ∧ ∃ tl td : Nat, e = .returned (.agg #[.pointer (some ⟨tl, 0, none⟩), .pointer (some ⟨td, 0, none⟩)]) ∧ w.heap.size ≤ tl ∧ w.heap.size ≤ td ∧ TabOf w' w.heap.size tl l1 ∧ TabOf w' w.heap.size td l2))
theorem TabOf.base {w : World} {B B' tb : Nat} {l : List Int} (h : TabOf w B tb l) (hB : B' ≤ B) : TabOf w B' tb l := by
  obtain ⟨P, h1, h2, h3, v, h4, h5⟩ := h
  exact ⟨P, h1, h2, by omega, v, h4, own_base h5 hB⟩
theorem Has.keep {w w' : World} {g : Nat} {t : TypeId} {cs : Array Value} (h : Has w g t cs) (e : w'.heap[g]? = w.heap[g]?) : Has w' g t cs := e.trans h
theorem TabOf.set {w : World} {B tb : Nat} {l : List Int} (h : TabOf w B tb l) {p : Addr} {t : TypeId} {cs : Array Value} (hp : Has w p.block t cs) (h1 : t ≠ 118) (h2 : t ≠ 122) (u : Value) : TabOf (w.setCell p u) B tb l := by
  obtain ⟨P, a1, a2, a3, v, a4, a5⟩ := h
  refine ⟨P, a1, a2, a3, v, a4.far (fun e => ?_) u, own_keep a5 fun b hb => Below.heap_setCell w p u b fun e => ?_⟩
  · rw [← e] at hp
    unfold Has at hp a4
    rw [hp] at a4
    injection a4 with a4
    injection a4 with _ a4
    exact h1 a4
  · exact own_ne_has a5 hp (fun e => h2 e.symm) (by rw [hb, e])
set_option maxRecDepth 100000 in
set_option maxHeartbeats 4000000 in
theorem newCodes_any (a1 : Option Addr) (n1 c1 : Nat) (l1 : List Int) (hl1 : Hid (l1.length = n1)) (a2 : Option Addr) (n2 c2 : Nat) (l2 : List Int) (hl2 : Hid (l2.length = n2)) (w : World) (h1 : ZsAt w a1 l1) (h2 : ZsAt w a2 l2) :
    Calls Tryd.prog 60 #[.slice a1 n1 c1, .slice a2 n2 c2] w (NewC l1 l2 w) := by
  have H1 := hid h1
  have H2 := hid h2
  have HN := hid (Has.new w 35 #[.pointer none, .pointer none])
  have HW := hid (show Bw w (w.alloc (.cells #[.pointer none, .pointer none] 35)) from (Bw.refl w).alloc _)
  have hsz : w.heap.size < (w.alloc (.cells #[.pointer none, .pointer none] 35)).heap.size := by simp
  clear h1 h2
  go_enter Tryd.func60, Tryd.ntmps60
  go_wp2_with fail
  generalize w.alloc (.cells #[.pointer none, .pointer none] 35) = W at *
  have HSZ := hid hsz
  obtain ⟨nb, hnb⟩ : ∃ nb, w.heap.size = nb := ⟨_, rfl⟩
  have HNB := hid hnb
  rw [hnb] at HN ⊢
  clear hnb hsz
  by_cases hc1 : checkE l1 = 0
  · refine (new_ok a1 n1 c1 l1 hl1 hc1 W (H1.out.bw HW.out)).mono ?_
    rintro e w2 ⟨tl, rfl, ht1, hT1, hb2⟩
    have HT1 := hid hT1
    have HB2 := hid hb2
    have HC1 := hid hc1
    clear hT1 hb2 hc1
    go_wp2_with fail
    refine (icheck_ok _).mono ?_
    rintro e w3 ⟨rfl, rfl⟩
    go_wp2_with fail
    by_cases hc2 : checkE l2 = 0
    · refine (new_ok a2 n2 c2 l2 hl2 hc2 w3 (H2.out.bw (HW.out.trans HB2.out))).mono ?_
      rintro e w4 ⟨td, rfl, ht2, hT2, hb4⟩
      have HT2 := hid hT2
      have HB4 := hid hb4
      have HC2 := hid hc2
      clear hT2 hb4 hc2
      go_wp2_with fail
      refine (icheck_ok _).mono ?_
      rintro e w5 ⟨rfl, rfl⟩
      have HN5 := hid ((HB2.out.trans HB4.out).has HN.out)
      have g0 : w5.cell? ⟨nb, 0, none⟩ = some (.pointer none) := HN5.out.cell 0
      have g1 : w5.cell? ⟨nb, 1, none⟩ = some (.pointer none) := HN5.out.cell 1
      have f0 : w5.frozen? ⟨nb, 0, none⟩ = false := HN5.out.frozen 0
      have f1 : w5.frozen? ⟨nb, 1, none⟩ = false := HN5.out.frozen 1
      have HP := hid (has_two HN5.out (.pointer (some ⟨tl, 0, none⟩)) (.pointer (some ⟨td, 0, none⟩)))
      have HBP := hid (bw_two (HW.out.trans (HB2.out.trans HB4.out)) (show w.heap.size ≤ nb by have := HNB.out; omega) (.pointer (some ⟨tl, 0, none⟩)) (.pointer (some ⟨td, 0, none⟩)))
      have HTA := hid (((HT1.out.bw HB4.out).set (p := ⟨nb, 0, none⟩) HN5.out (by decide) (by decide) (.pointer (some ⟨tl, 0, none⟩))).set (p := ⟨nb, 1, none⟩) (HN5.out.put 0 (.pointer (some ⟨tl, 0, none⟩))) (by decide) (by decide) (.pointer (some ⟨td, 0, none⟩)))
      have HTB := hid ((HT2.out.set (p := ⟨nb, 0, none⟩) HN5.out (by decide) (by decide) (.pointer (some ⟨tl, 0, none⟩))).set (p := ⟨nb, 1, none⟩) (HN5.out.put 0 (.pointer (some ⟨tl, 0, none⟩))) (by decide) (by decide) (.pointer (some ⟨td, 0, none⟩)))
      go_wp2
      generalize World.setCell (World.setCell w5 _ _) _ _ = W6 at *
      have p0 : W6.cell? ⟨nb, 0, none⟩ = some (.pointer (some ⟨tl, 0, none⟩)) := HP.out.cell 0
      have p1 : W6.cell? ⟨nb, 1, none⟩ = some (.pointer (some ⟨td, 0, none⟩)) := HP.out.cell 1
      try simp only [Exit.inBlock, Exit.then]
      refine bodyPost_ret (by simp [results, Tryd.results60, go_sem, p0, p1]; try rfl) rfl ?_
      have hz := HSZ.out
      have hz2 := HB2.out.size
      have hnb := HNB.out
      exact ⟨HBP.out, .inr (.inr ⟨HC1.out, HC2.out, tl, td, rfl, by omega, by omega, HTA.out.base (by omega), HTB.out.base (by omega)⟩)⟩
    · refine (new_bad a2 n2 c2 l2 hl2 hc2 w3 (H2.out.bw (HW.out.trans HB2.out))).mono ?_
      rintro e w4 ⟨rfl, hb4⟩
      have HC2 := hid hc2
      have HB4 := hid hb4
      clear hb4 hc2
      have HE := hid (show NewC l1 l2 w (pan (checkE l2)) w4 from ⟨HW.out.trans (HB2.out.trans HB4.out), .inr (.inl ⟨HC1.out, HC2.out, rfl⟩)⟩)
      generalize checkE l2 = ce at *
      go_wp2_with fail
      refine (icheck_bad ce HC2.out _).mono ?_
      rintro e w5 ⟨rfl, rfl⟩
      exact ⟨rfl, HE.out⟩
  · refine (new_bad a1 n1 c1 l1 hl1 hc1 W (H1.out.bw HW.out)).mono ?_
    rintro e w2 ⟨rfl, hb2⟩
    have HC1 := hid hc1
    have HB2 := hid hb2
    clear hb2 hc1
    have HE := hid (show NewC l1 l2 w (pan (checkE l1)) w2 from ⟨HW.out.trans HB2.out, .inl ⟨HC1.out, rfl⟩⟩)
    generalize checkE l1 = ce at *
    go_wp2_with fail
    refine (icheck_bad ce HC1.out _).mono ?_
    rintro e w5 ⟨rfl, rfl⟩
    exact ⟨rfl, HE.out⟩
theorem fixedLength_any (i : Nat) (hi : i < 288) (w : World) : Calls Tryd.prog 59 #[.int .i64 i] w fun e w' => e = .returned (.int .i64 (fixL.getD i 0)) ∧ w' = w := by
  rw [fixL_get i hi]
  by_cases h1 : i < 144
  · rw [if_pos h1]
    have t1 : decide ((i : Int) < 144) = true := decide_eq_true (by omega)
    go_enter Tryd.func59, Tryd.ntmps59
    go_wp2
    go_returns
    exact ⟨rfl, rfl⟩
  · rw [if_neg h1]
    have t1 : decide ((i : Int) < 144) = false := decide_eq_false (by omega)
    by_cases h2 : i < 256
    · rw [if_pos h2]
      have t2 : decide ((i : Int) < 256) = true := decide_eq_true (by omega)
      go_enter Tryd.func59, Tryd.ntmps59
      go_wp2
      go_returns
      exact ⟨rfl, rfl⟩
    · rw [if_neg h2]
      have t2 : decide ((i : Int) < 256) = false := decide_eq_false (by omega)
      by_cases h3 : i < 280
      · rw [if_pos h3]
        have t3 : decide ((i : Int) < 280) = true := decide_eq_true (by omega)
        go_enter Tryd.func59, Tryd.ntmps59
        go_wp2
        go_returns
        exact ⟨rfl, rfl⟩
      · rw [if_neg h3]
        have t3 : decide ((i : Int) < 280) = false := decide_eq_false (by omega)
        go_enter Tryd.func59, Tryd.ntmps59
        go_wp2
        go_returns
        exact ⟨rfl, rfl⟩
end Go.Proofs.YtgchopfagobleaaDoor
