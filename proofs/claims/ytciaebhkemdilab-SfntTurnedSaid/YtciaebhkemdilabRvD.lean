/- Clash; New (for spans without values). -/
import Derived.Test.YtciaebhkemdilabRvC
namespace Go.Proofs.Ytciaebhkemdilab
open Go.RowKit Go.Conc
set_option linter.unusedVariables false
set_option linter.unusedSimpArgs false
/-- What Clash tells. -/
def clashB (L : List PartR) (lo hi : Int) : Bool := spB lo hi && (if h : fstI L lo < L.length then decide (((L[fstI L lo]).lo : Int) < hi) else false)
set_option maxRecDepth 100000 in
set_option maxHeartbeats 4000000 in
theorem clash_any (g : Nat) (L : List PartR) (hR : Rising L) (h9 : L.length ≤ 1000000000) (lo hi : Int) (w : World) (hs : SetAt w g L) :
    Calls Try.prog 62 #[.pointer (some ⟨g, 0, none⟩), .int .i64 lo, .int .i64 hi] w fun e w' => e = .returned (.bool (clashB L lo hi)) ∧ Bw w w' := by
  have HF := hid (fun W (hb : Bw w W) => first_any g L hR h9 lo W (hs.bw hb))
  have HS := hid (fun W => isSpan_any lo hi W)
  by_cases hsp : spB lo hi = true
  · by_cases hf : fstI L lo < L.length
    · have e1 : firstV L lo = partV L[fstI L lo] := dif_pos hf
      have e2 : firstB L lo = true := decide_eq_true hf
      have e3 : clashB L lo hi = decide (((L[fstI L lo]).lo : Int) < hi) := by unfold clashB; rw [dif_pos hf, hsp]; rfl
      rw [e3]
      rw [e1, e2] at HF
      rw [hsp] at HS
      unfold partV at HF
      clear e1 e2 e3 hsp hs
      generalize L[fstI L lo] = q at *
      clear hf
      go_enter Try.func62, Try.ntmps62
      go_wp2_with fail
      refine (HS.out w).mono ?_
      rintro e w1 ⟨rfl, rfl⟩
      go_wp2_with fail
      refine (HF.out w (Bw.refl w)).mono ?_
      rintro e w2 ⟨rfl, hb⟩
      have HB := hid hb
      clear hb
      go_wp2
      go_returns
      exact ⟨rfl, HB.out.alloc _⟩
    · have e1 : firstV L lo = noneV := dif_neg hf
      have e2 : firstB L lo = false := decide_eq_false hf
      have e3 : clashB L lo hi = false := by unfold clashB; rw [dif_neg hf, hsp]; rfl
      rw [e3]
      rw [e1, e2] at HF
      rw [hsp] at HS
      unfold noneV at HF
      clear e1 e2 e3 hsp hs hf
      go_enter Try.func62, Try.ntmps62
      go_wp2_with fail
      refine (HS.out w).mono ?_
      rintro e w1 ⟨rfl, rfl⟩
      go_wp2_with fail
      refine (HF.out w (Bw.refl w)).mono ?_
      rintro e w2 ⟨rfl, hb⟩
      have HB := hid hb
      clear hb
      go_wp2
      go_returns
      exact ⟨rfl, HB.out.alloc _⟩
  · have e3 : clashB L lo hi = false := by unfold clashB; rw [eq_false_of_ne_true hsp]; rfl
    rw [e3]
    rw [eq_false_of_ne_true hsp] at HS
    clear e3 hsp hs HF
    go_enter Try.func62, Try.ntmps62
    go_wp2_with fail
    refine (HS.out w).mono ?_
    rintro e w1 ⟨rfl, rfl⟩
    go_wp2
    go_returns
    exact ⟨rfl, Bw.refl _⟩
set_option maxRecDepth 100000 in
theorem new_ret (w : World) :
    Calls Try.prog 39 #[] w fun e w' => ∃ g : Nat, e = .returned (.pointer (some ⟨g, 0, none⟩)) ∧ SetAt w' g [] ∧ w.heap.size ≤ g ∧ Bw w w' := by
  have H : Hid (SetAt (w.alloc (.cells #[.slice none 0 0] 103)) w.heap.size []) := hid ⟨_, (Has.new w _ _).cell 0, .inl ⟨rfl, rfl⟩⟩
  have HB := hid ((Bw.refl w).alloc (.cells #[.slice none 0 0] 103))
  go_enter Try.func39, Try.ntmps39
  go_wp2
  go_returns
  exact ⟨_, rfl, H.out, Nat.le_refl _, HB.out⟩
end Go.Proofs.Ytciaebhkemdilab
