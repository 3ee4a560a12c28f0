/- A row of bytes that a call owns: its cells, its text. -/
import Derived.Test.YtlilmidffcmkjaaDoorMatM
import Derived.Test.YtlilmidffcmkjaaDoorOwn
import Derived.Laws.IdiomStrings
import Derived.Laws.BytesArg
import Derived.OwnWalk
import Derived.Deep.Slices
namespace Go.Proofs.YtlilmidffcmkjaaDoor
open Go.RowKit
set_option linter.unusedVariables false
theorem byteInfo : (Tryd.prog.info? 5).map (fun i => (i.zero, i.size, i.bytes)) = some (some (.int .u8 0), 1, 1) := by kernel_rfl
theorem own_byte {w : World} {B g n cap : Nat} {l : List UInt8} (h : w.ownsRow B 5 1 (.slice (some ⟨g, 0, none⟩) n cap) n (bcs l)) (i : Nat) (hi : i < l.length) : w.cell? ⟨g, i, none⟩ = some (.int .u8 ((l[i]'hi).toNat : Nat)) := by
  have := h.cells (g := g) rfl i _ (bcs_get l i hi)
  rwa [addr_add] at this
set_option maxRecDepth 100000 in
/-- A row of bytes turned into a text. -/
theorem conv_bytes {w : World} {B n : Nat} {v : Value} {l : List UInt8} (hn : l.length = n) (h : w.ownsRow B 5 1 v n (bcs l)) :
    (convert 49 9 v).run Tryd.prog w = .ok (.string ⟨l.toArray⟩) w := by
  obtain ⟨ao, cap, rfl⟩ := own_slice h
  subst hn
  by_cases h0 : l.length = 0
  · obtain rfl : l = [] := List.length_eq_zero_iff.1 h0
    rcases h.2 with ⟨h1, h2⟩ | ⟨g, cap', cur, h1, _⟩
    · injection h1 with e1 e2 e3
      subst e1
      exact run_convert_bytes_nil (P := Tryd.prog) (w := w) 49 5 Tryd.underlying49 Tryd.underlying5 0 cap 9 Tryd.underlying9
    · injection h1 with e1 e2 e3
      subst e1
      exact run_convert_bytes_back (P := Tryd.prog) w 49 9 5 ⟨g, 0, none⟩ cap [] Tryd.underlying49 Tryd.underlying5 Tryd.underlying9 (fun j hj => by simp at hj)
  · obtain ⟨g, cap', e⟩ := own_some h (by omega)
    injection e with e1 e2 e3
    subst e1
    exact run_convert_bytes_back (P := Tryd.prog) w 49 9 5 ⟨g, 0, none⟩ cap l Tryd.underlying49 Tryd.underlying5 Tryd.underlying9 (fun j hj => by rw [addr_add]; exact own_byte h j hj)
end Go.Proofs.YtlilmidffcmkjaaDoor
