/- Rows that a call owns. -/
import Derived.Test.YtgkgimfdbkpbdaaDoorRows
import Derived.Test.YtgkgimfdbkpbdaaDoorBase
import Derived.Test.YtgkgimfdbkpbdaaDoorComm
import Derived.Test.YtgkgimfdbkpbdaaDoorKeep
import Derived.Maps.AppendAt
import Derived.OwnWalk
import Derived.Deep.QuietTactic
import Derived.BigQuiet
namespace Go.Proofs.YtgkgimfdbkpbdaaDoor
open Go.RowKit Go.Conc
set_option linter.unusedVariables false
section
variable {w w' : World} {B : Nat} {e : TypeId} {size n : Nat} {v : Value} {xs : List Value}
theorem own_slice (h : w.ownsRow B e size v n xs) : ∃ a cap, v = .slice a n cap := by
  rcases h.2 with ⟨rfl, h0⟩ | ⟨g', cap, cur, rfl, _⟩
  · obtain rfl : n = 0 := h0
    exact ⟨none, 0, rfl⟩
  · exact ⟨_, cap, rfl⟩
theorem own_some (h : w.ownsRow B e size v n xs) (hn : 0 < n) : ∃ b cap, v = .slice (some ⟨b, 0, none⟩) n cap := by
  rcases h.2 with ⟨_, h0⟩ | ⟨g', cap, cur, rfl, _⟩
  · omega
  · exact ⟨g', cap, rfl⟩
theorem own_at (h : w.ownsRow B e size v n xs) {b : Nat} (hb : v.ownBlock = some b) : ∃ cur, w.heap[b]? = some (.cells cur e (0, 0)) := by
  rcases h.2 with ⟨rfl, _⟩ | ⟨g', cap, cur, rfl, _, hh, _⟩
  · simp [Value.ownBlock] at hb
  · have : g' = b := by simpa [Value.ownBlock] using hb
    subst this
    exact ⟨cur, hh⟩
theorem own_lt (h : w.ownsRow B e size v n xs) {b : Nat} (hb : v.ownBlock = some b) : b < w.heap.size := by
  obtain ⟨cur, hh⟩ := own_at h hb
  exact (Array.getElem?_eq_some_iff.1 hh).1
theorem own_ge (h : w.ownsRow B e size v n xs) {b : Nat} (hb : v.ownBlock = some b) : B ≤ b := by
  rcases h.2 with ⟨rfl, _⟩ | ⟨g', cap, cur, rfl, hg, hh, _⟩
  · simp [Value.ownBlock] at hb
  · have : g' = b := by simpa [Value.ownBlock] using hb
    omega
theorem own_keep (h : w.ownsRow B e size v n xs) (hk : ∀ b, v.ownBlock = some b → w'.heap[b]? = w.heap[b]?) : w'.ownsRow B e size v n xs := by
  refine ⟨h.1, ?_⟩
  rcases h.2 with ⟨rfl, h0⟩ | ⟨g', cap, cur, rfl, h1, hh, h2⟩
  · exact .inl ⟨rfl, h0⟩
  · exact .inr ⟨g', cap, cur, rfl, h1, (hk g' (by simp [Value.ownBlock])).trans hh, h2⟩
theorem own_ne_has (h : w.ownsRow B e size v n xs) {g : Nat} {t : TypeId} {cs : Array Value} (hg : Has w g t cs) (hne : e ≠ t) : v.ownBlock ≠ some g := fun hb => by
  obtain ⟨cur, hc⟩ := own_at h hb
  unfold Has at hg
  rw [hg] at hc
  injection hc with hc
  injection hc with _ ht
  exact hne ht.symm
theorem Bw.own (h : Bw w w') (k : w.ownsRow B e size v n xs) : w'.ownsRow B e size v n xs := own_keep k fun b hb => h.block b (own_lt k hb)
theorem own_grown {w1 w2 : World} {row : Option Nat} (hB : B ≤ w1.heap.size) (h : ∀ b, row = some b → B ≤ b) (hg : w1.grownBy w2 row) : Below B w1 w2 :=
  ⟨hg.os, hg.tape, hg.output, hg.size, fun i hi => hg.block i (by omega) (fun hx => by have := h i hx.symm; omega)⟩
end
theorem has_grown {w w' : World} {g : Nat} {t : TypeId} {cs : Array Value} (h : Has w g t cs) {row : Option Nat} (hg : w.grownBy w' row) (hr : row ≠ some g) : Has w' g t cs := (hg.block g h.lt (fun e => hr e.symm)).trans h
theorem addr_add (g j : Nat) : (Addr.add ⟨g, 0, none⟩ j) = ⟨g, j, none⟩ := by
  unfold Addr.add
  by_cases hz : j = 0
  · simp [hz]
  · simp; omega
theorem own_two (w : World) (x y : Value) (t : TypeId) : ∀ j u, [x, y][j]? = some u → (w.alloc (.cells #[x, y] t)).cell? ((⟨w.heap.size, 0, none⟩ : Addr).add j) = some u := by
  intro j u hj
  have hn := Has.new w t #[x, y]
  match j, hj with
  | 0, hj =>
    simp at hj; subst hj
    exact hn.cell 0
  | 1, hj =>
    simp at hj; subst hj
    exact hn.cell 1
theorem two_at {W : World} {n : Nat} (h : W.heap.size = n) (x y : Value) (t : TypeId) : ∀ j u, [x, y][j]? = some u → (W.alloc (.cells #[x, y] t)).cell? ((⟨n, 0, none⟩ : Addr).add j) = some u := by
  subst h; exact own_two W x y t
theorem own_grownJ {w w1 w2 : World} {B : Nat} {e : TypeId} {size n : Nat} {v : Value} {xs : List Value} (h : w.ownsRow B e size v n xs) (hg : w1.grownBy w2 v.ownBlock) (hB : B ≤ w1.heap.size) : Below B w1 w2 :=
  ⟨hg.os, hg.tape, hg.output, hg.size, fun i hi => hg.block i (by omega) (fun hx => by
    rcases h.2 with ⟨hv, _⟩ | ⟨g', cp, cur, hv, hg', _⟩
    · subst hv
      cases hx
    · subst hv
      have hx2 : some i = some g' := hx
      injection hx2 with hx3
      omega)⟩
theorem own_ltJ {w : World} {B : Nat} {e : TypeId} {size n : Nat} {v : Value} {xs : List Value} (h : w.ownsRow B e size v n xs) {b : Nat} (hb : v.ownBlock = some b) : b < w.heap.size := by
  rcases h.2 with ⟨rfl, _⟩ | ⟨g', cap, cur, rfl, _, hh, _⟩
  · cases hb
  · have hb2 : some g' = some b := hb
    injection hb2 with hb3
    subst hb3
    exact (Array.getElem?_eq_some_iff.1 hh).1
theorem cell_lt {w : World} {b o : Nat} {v : Value} (h : w.cell? ⟨b, o, none⟩ = some v) : b < w.heap.size := by
  rcases Nat.lt_or_ge b w.heap.size with hl | hg
  · exact hl
  · simp [World.cell?, Array.getElem?_eq_none hg] at h
theorem Bw.cell {w w' : World} (h : Bw w w') {b o : Nat} {v : Value} (k : w.cell? ⟨b, o, none⟩ = some v) : w'.cell? ⟨b, o, none⟩ = some v := (World.cell?_of_block (h.block b (cell_lt k))).trans k
theorem own_is {w : World} {B t size g n cap : Nat} {xs : List Value} (h : w.ownsRow B t size (.slice (some ⟨g, 0, none⟩) n cap) n xs) (j : Nat) (hj : j < n * size) : ∃ v, w.cell? ⟨g, j, none⟩ = some v := by
  have hl := h.1
  have := h.cells (g := g) rfl j (xs[j]'(by omega)) (List.getElem?_eq_getElem _)
  rw [addr_add] at this
  exact ⟨_, this⟩
end Go.Proofs.YtgkgimfdbkpbdaaDoor
