/- A row of bytes that a call owns: its cells, its text, what keeps it. -/
import Derived.Test.YthegehgjpehfkaaTokKit
import Derived.Laws.IdiomStrings
import Derived.Laws.BytesArg
import Derived.OwnWalk
namespace Go.Proofs.Ythegehgjpehfkaa
open Go.RowKit
set_option linter.unusedVariables false
theorem byteInfo : (Try.prog.info? 5).map (fun i => (i.zero, i.size, i.bytes)) = some (some (.int .u8 0), 1, 1) := by kernel_rfl
theorem tokInfo : (Try.prog.info? 37).map (fun i => (i.zero, i.size, i.bytes)) = some (some (.agg #[.int .u8 0, .int .i64 0, .int .i64 0]), 3, 24) := by kernel_rfl
section
variable {w w' : World} {B : Nat} {e : TypeId} {size n : Nat} {v : Value} {xs : List Value}
theorem own_slice (h : w.ownsRow B e size v n xs) : ∃ a cap, v = .slice a n cap := by
  rcases h.2 with ⟨rfl, h0⟩ | ⟨g', cap, cur, rfl, _⟩
  · obtain rfl : n = 0 := h0
    exact ⟨none, 0, rfl⟩
  · exact ⟨_, cap, rfl⟩
theorem own_some (h : w.ownsRow B e size v n xs) (hn : 0 < n) : ∃ b cap, v = .slice (some ⟨b, 0, none⟩) n cap := by
  rcases h.2 with ⟨_, h0⟩ | ⟨g', cap, cur, rfl, _⟩
  · omega
  · exact ⟨g', cap, rfl⟩
theorem own_at (h : w.ownsRow B e size v n xs) {b : Nat} (hb : v.ownBlock = some b) : ∃ cur, w.heap[b]? = some (.cells cur e (0, 0)) := by
  rcases h.2 with ⟨rfl, _⟩ | ⟨g', cap, cur, rfl, _, hh, _⟩
  · simp [Value.ownBlock] at hb
  · have : g' = b := by simpa [Value.ownBlock] using hb
    subst this
    exact ⟨cur, hh⟩
theorem own_lt (h : w.ownsRow B e size v n xs) {b : Nat} (hb : v.ownBlock = some b) : b < w.heap.size := by
  obtain ⟨cur, hh⟩ := own_at h hb
  exact (Array.getElem?_eq_some_iff.1 hh).1
theorem own_ge (h : w.ownsRow B e size v n xs) {b : Nat} (hb : v.ownBlock = some b) : B ≤ b := by
  rcases h.2 with ⟨rfl, _⟩ | ⟨g', cap, cur, rfl, hg, hh, _⟩
  · simp [Value.ownBlock] at hb
  · have : g' = b := by simpa [Value.ownBlock] using hb
    omega
theorem own_keep (h : w.ownsRow B e size v n xs) (hk : ∀ b, v.ownBlock = some b → w'.heap[b]? = w.heap[b]?) : w'.ownsRow B e size v n xs := by
  refine ⟨h.1, ?_⟩
  rcases h.2 with ⟨rfl, h0⟩ | ⟨g', cap, cur, rfl, h1, hh, h2⟩
  · exact .inl ⟨rfl, h0⟩
  · exact .inr ⟨g', cap, cur, rfl, h1, (hk g' (by simp [Value.ownBlock])).trans hh, h2⟩
theorem own_ne_has (h : w.ownsRow B e size v n xs) {g : Nat} {t : TypeId} {cs : Array Value} (hg : Has w g t cs) (hne : e ≠ t) : v.ownBlock ≠ some g := fun hb => by
  obtain ⟨cur, hc⟩ := own_at h hb
  unfold Has at hg
  rw [hg] at hc
  injection hc with hc
  injection hc with _ ht
  exact hne ht.symm
theorem Bw.own (h : Bw w w') (k : w.ownsRow B e size v n xs) : w'.ownsRow B e size v n xs := own_keep k fun b hb => h.block b (own_lt k hb)
theorem own_grown {w1 w2 : World} {row : Option Nat} (hB : B ≤ w1.heap.size) (h : ∀ b, row = some b → B ≤ b) (hg : w1.grownBy w2 row) : Below B w1 w2 :=
  ⟨hg.os, hg.tape, hg.output, hg.size, fun i hi => hg.block i (by omega) (fun hx => by have := h i hx.symm; omega)⟩
end
theorem has_grown {w w' : World} {g : Nat} {t : TypeId} {cs : Array Value} (h : Has w g t cs) {row : Option Nat} (hg : w.grownBy w' row) (hr : row ≠ some g) : Has w' g t cs := (hg.block g h.lt (fun e => hr e.symm)).trans h
theorem addr_add (g j : Nat) : (Addr.add ⟨g, 0, none⟩ j) = ⟨g, j, none⟩ := by
  unfold Addr.add
  by_cases hz : j = 0
  · simp [hz]
  · simp; omega
theorem own_byte {w : World} {B g n cap : Nat} {l : List UInt8} (h : w.ownsRow B 5 1 (.slice (some ⟨g, 0, none⟩) n cap) n (bcs l)) (i : Nat) (hi : i < l.length) : w.cell? ⟨g, i, none⟩ = some (.int .u8 ((l[i]'hi).toNat : Nat)) := by
  have := h.cells (g := g) rfl i _ (bcs_get l i hi)
  rwa [addr_add] at this
/-- A row of bytes turned into a text. -/
theorem conv_bytes {w : World} {B n : Nat} {v : Value} {l : List UInt8} (hn : l.length = n) (h : w.ownsRow B 5 1 v n (bcs l)) :
    (convert 33 9 v).run Try.prog w = .ok (.string ⟨l.toArray⟩) w := by
  obtain ⟨ao, cap, rfl⟩ := own_slice h
  subst hn
  by_cases h0 : l.length = 0
  · obtain rfl : l = [] := List.length_eq_zero_iff.1 h0
    rcases h.2 with ⟨h1, h2⟩ | ⟨g, cap', cur, h1, _⟩
    · injection h1 with e1 e2 e3
      subst e1
      exact run_convert_bytes_nil (P := Try.prog) (w := w) 33 5 Try.underlying33 Try.underlying5 0 cap 9 Try.underlying9
    · injection h1 with e1 e2 e3
      subst e1
      exact run_convert_bytes_back (P := Try.prog) w 33 9 5 ⟨g, 0, none⟩ cap [] Try.underlying33 Try.underlying5 Try.underlying9 (fun j hj => by simp at hj)
  · obtain ⟨g, cap', e⟩ := own_some h (by omega)
    injection e with e1 e2 e3
    subst e1
    exact run_convert_bytes_back (P := Try.prog) w 33 9 5 ⟨g, 0, none⟩ cap l Try.underlying33 Try.underlying5 Try.underlying9 (fun j hj => by rw [addr_add]; exact own_byte h j hj)
end Go.Proofs.Ythegehgjpehfkaa
