/- Covered and Gaps of both, for any two numbers; a row's element stored anew. -/
import Derived.Test.YtemgdnloabefjaaRegX
import Derived.Test.YtemgdnloabefjaaRegN
import Derived.Test.YtemgdnloabefjaaRegO
namespace Go.Proofs.Ytemgdnloabefjaa
open Go.RowKit Go.Conc
set_option linter.unusedVariables false
theorem cov_any (g : Nat) (L : List PartR) (hR : Rising L) (h9 : L.length ≤ 1000) (lo hi : Int) (w : World) (hs : SetAt w g L) :
    Calls Try.prog 20 #[.pointer (some ⟨g, 0, none⟩), .int .i64 lo, .int .i64 hi] w fun e w' => e = .returned (.int .i64 (rcovV L lo hi)) ∧ Bw w w' := by
  by_cases hsp : spB lo hi = true
  · obtain ⟨a1, a2, a3⟩ := of_decide_eq_true hsp
    obtain ⟨l, rfl⟩ : ∃ l : Nat, lo = l := ⟨lo.toNat, by omega⟩
    obtain ⟨h, rfl⟩ : ∃ h : Nat, hi = h := ⟨hi.toNat, by omega⟩
    have e : rcovV L l h = (covN L l h : Nat) := by unfold rcovV; rw [if_pos hsp, covW_eq hR l h (by omega) (by omega)]
    rw [e]
    exact covered_ok g L hR (by omega) l h w hs hsp
  · have hf := eq_false_of_ne_true hsp
    have e : rcovV L lo hi = 0 := by unfold rcovV; rw [if_neg hsp]
    rw [e]
    exact covered_no g lo hi w hf
def gapsL (L : List PartR) (lo hi : Int) : List (Nat × Nat) := if spB lo hi then rgaps L lo.toNat hi.toNat else []
theorem gaps_any (g : Nat) (L : List PartR) (hR : Rising L) (h9 : L.length ≤ 1000) (lo hi : Int) (w : World) (hs : SetAt w g L) :
    Calls Try.prog 22 #[.pointer (some ⟨g, 0, none⟩), .int .i64 lo, .int .i64 hi] w fun e w' => ∃ v : Value, e = .returned v ∧ w'.ownsRow w.heap.size 31 2 v (gapsL L lo hi).length (spanCells (gapsL L lo hi)) ∧ Bw w w' := by
  by_cases hsp : spB lo hi = true
  · obtain ⟨a1, a2, a3⟩ := of_decide_eq_true hsp
    obtain ⟨l, rfl⟩ : ∃ l : Nat, lo = l := ⟨lo.toNat, by omega⟩
    obtain ⟨h, rfl⟩ : ∃ h : Nat, hi = h := ⟨hi.toNat, by omega⟩
    have e : gapsL L l h = rgaps L l h := by unfold gapsL; rw [if_pos hsp]; rfl
    rw [e]
    exact gaps_ok g L hR (by omega) l h w hs hsp
  · have hf := eq_false_of_ne_true hsp
    have e : gapsL L lo hi = [] := by unfold gapsL; rw [if_neg hsp]
    rw [e]
    exact (gaps_no g lo hi w hf).mono fun e w' ⟨h1, h2⟩ => ⟨_, h1, World.ownsRow_nil _ _ _ _, h2⟩
theorem rgapsA_any (g : Nat) (L : List PartR) (h9 : L.length ≤ 1000) (lo hi : Int) (w : World) (hs : RefAt w g L) :
    Calls Try.prog 24 #[.pointer (some ⟨g, 0, none⟩), .int .i64 lo, .int .i64 hi] w fun e w' => ∃ v : Value, e = .returned v ∧ w'.ownsRow w.heap.size 31 2 v (gapsL L lo hi).length (spanCells (gapsL L lo hi)) ∧ Bw w w' := by
  by_cases hsp : spB lo hi = true
  · obtain ⟨a1, a2, a3⟩ := of_decide_eq_true hsp
    obtain ⟨l, rfl⟩ : ∃ l : Nat, lo = l := ⟨lo.toNat, by omega⟩
    obtain ⟨h, rfl⟩ : ∃ h : Nat, hi = h := ⟨hi.toNat, by omega⟩
    have e : gapsL L l h = rgaps L l h := by unfold gapsL; rw [if_pos hsp]; rfl
    rw [e]
    exact rgaps_any g L (by omega) l h w hs hsp
  · have hf := eq_false_of_ne_true hsp
    have e : gapsL L lo hi = [] := by unfold gapsL; rw [if_neg hsp]
    rw [e]
    exact (rgaps_bad g lo hi w hf).mono fun e w' ⟨h1, h2⟩ => ⟨_, h1, World.ownsRow_nil _ _ _ _, by rw [h2]; exact Bw.refl w⟩
theorem gapStep_len (lo hi : Nat) (st : List (Nat × Nat) × Nat) (p : PartR) : (gapStep lo hi st p).1.length ≤ st.1.length + 1 := by
  unfold gapStep
  split
  · omega
  · split
    · omega
    · split
      · simp
      · simp
theorem gapFold_len (lo hi : Nat) : ∀ (L : List PartR) (st : List (Nat × Nat) × Nat), (L.foldl (gapStep lo hi) st).1.length ≤ st.1.length + L.length
  | [], st => by simp
  | p :: L, st => by
    rw [List.foldl_cons, List.length_cons]
    have h1 := gapFold_len lo hi L (gapStep lo hi st p)
    have h2 := gapStep_len lo hi st p
    omega
theorem gapsL_len (L : List PartR) (lo hi : Int) : (gapsL L lo hi).length ≤ L.length + 1 := by
  unfold gapsL
  split
  · have h := gapFold_len lo.toNat hi.toNat L ([], lo.toNat)
    unfold rgaps gapGo
    simp only [List.length_nil] at h
    split
    · rw [List.length_append, List.length_singleton]; omega
    · omega
  · simp
theorem own_setj {w : World} {B t size g n cap : Nat} {xs : List Value} (h : w.ownsRow B t size (.slice (some ⟨g, 0, none⟩) n cap) n xs) (j : Nat) (hj : j < n * size) (u : Value) : (w.setCell ⟨g, j, none⟩ u).ownsRow B t size (.slice (some ⟨g, 0, none⟩) n cap) n (xs.set j u) := by
  have hl := h.1
  have hge := own_ge h (b := g) rfl
  obtain ⟨cur, hg, _, h1, h2, h3, h4⟩ := own_row h
  refine ⟨by rw [List.length_set]; exact hl, .inr ⟨g, cap, cur.setIfInBounds j u, rfl, hge, ?_, h1, h2, by simpa using h3, ?_⟩⟩
  · simp [World.setCell, Array.getElem?_modify, hg]
  · rw [Array.toList_setIfInBounds, List.take_set, h4]
theorem own_someB {w : World} {B : Nat} {e : TypeId} {size n : Nat} {v : Value} {xs : List Value} (h : w.ownsRow B e size v n xs) (hn : 0 < n) : ∃ b cap, v = .slice (some ⟨b, 0, none⟩) n cap := by
  rcases h.2 with ⟨_, h0⟩ | ⟨g', cap, cur, rfl, _, hh, _⟩
  · omega
  · exact ⟨g', cap, rfl⟩
theorem own_is {w : World} {B t size g n cap : Nat} {xs : List Value} (h : w.ownsRow B t size (.slice (some ⟨g, 0, none⟩) n cap) n xs) (j : Nat) (hj : j < n * size) : ∃ v, w.cell? ⟨g, j, none⟩ = some v := by
  have hl := h.1
  have := h.cells (g := g) rfl j (xs[j]'(by omega)) (List.getElem?_eq_getElem _)
  rw [addr_add] at this
  exact ⟨_, this⟩
end Go.Proofs.Ytemgdnloabefjaa
