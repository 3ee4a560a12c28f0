/- What huff.count leans on. -/
import Derived.Test.YtacgnadhpgkcmaaDoorHufM
import Derived.Test.YtacgnadhpgkcmaaDoorOwn
import Derived.Laws.IdiomCopy
namespace Go.Proofs.YtacgnadhpgkcmaaDoor
open Go.RowKit
set_option linter.unusedVariables false
/-- A slice of ints that came in, or that a call owns. -/
def ZsAt (w : World) (a : Option Addr) (l : List Int) : Prop :=
  ∀ i (h : i < l.length), ∃ b off, a = some ⟨b, off, none⟩ ∧ b < w.heap.size ∧ w.cell? ⟨b, off + i, none⟩ = some (.int .i64 (l[i]'h))
theorem ZsAt.bw {w w' : World} {a : Option Addr} {l : List Int} (h : ZsAt w a l) (hb : Bw w w') : ZsAt w' a l := fun i hi => by
  obtain ⟨b, off, e, h1, h2⟩ := h i hi
  exact ⟨b, off, e, Nat.lt_of_lt_of_le h1 hb.size, (World.cell?_of_block (hb.block b h1)).trans h2⟩
def zeros16 : Array Value := #[.int .i64 0, .int .i64 0, .int .i64 0, .int .i64 0, .int .i64 0, .int .i64 0, .int .i64 0, .int .i64 0, .int .i64 0, .int .i64 0, .int .i64 0, .int .i64 0, .int .i64 0, .int .i64 0, .int .i64 0, .int .i64 0]
def cntV (l : List Int) : Value := if okLens l then .agg (talArr l) else .agg zeros16
theorem has_setCells {g : Nat} {t : TypeId} : ∀ (vs : List Value) (o : Nat) (cs : List Value) (w : World), Has w g t cs.toArray → o + vs.length ≤ cs.length → Has (w.setCells g o vs) g t (cs.take o ++ vs ++ cs.drop (o + vs.length)).toArray
  | [], o, cs, w, h, _ => by simpa [World.setCells] using h
  | v :: r, o, cs, w, h, hl => by
    rw [List.length_cons] at hl
    have h2 : Has (w.setCell ⟨g, o, none⟩ v) g t (cs.set o v).toArray := by
      have := h.put o v
      simpa using this
    have h3 := has_setCells r (o + 1) (cs.set o v) (w.setCell ⟨g, o, none⟩ v) h2 (by rw [List.length_set]; omega)
    rw [World.setCells]
    rw [list_seg_step cs o v r (by omega)] at h3
    exact h3
/-- All cells of a block stored anew. -/
theorem has_all {w : World} {g : Nat} {t : TypeId} {cs : Array Value} (h : Has w g t cs) (vs : List Value) (hs : vs.length = cs.size) : Has (w.setCells g 0 vs) g t vs.toArray := by
  obtain ⟨l, rfl⟩ : ∃ l, cs = List.toArray l := ⟨cs.toList, by simp⟩
  have hl : vs.length = l.length := by simpa using hs
  have := has_setCells vs 0 l w h (by omega)
  rwa [List.take_zero, List.nil_append, Nat.zero_add, List.drop_eq_nil_of_le (by omega), List.append_nil] at this
theorem bw_setCells {w0 : World} {g : Nat} (hg : w0.heap.size ≤ g) : ∀ (vs : List Value) (o : Nat) (w : World), Bw w0 w → Bw w0 (w.setCells g o vs)
  | [], _, _, h => h
  | v :: r, o, w, h => by
    rw [World.setCells]
    exact bw_setCells hg r (o + 1) _ (Below.setCell h hg v)
end Go.Proofs.YtacgnadhpgkcmaaDoor
