/- Plain facts on blocks of bytes, and on the bytes of a number (no program in them). -/
import Derived.Test.YtgkgimfdbkpbdaaDoorBase
namespace Go.Proofs.YtgkgimfdbkpbdaaDoor
open Go.RowKit

/-- d bytes, byte j being f j. -/
def fill (d : Nat) (f : Nat → Int) : Array Value := ((List.range d).map fun j => Value.int .u8 (f j)).toArray
def strOf (d : Nat) (f : Nat → Int) : List UInt8 := (List.range d).map fun j => UInt8.ofNat (f j).toNat
theorem strOf_len (d : Nat) (f : Nat → Int) : (strOf d f).length = d := by simp [strOf]
theorem fill_congr {d : Nat} {f g : Nat → Int} (h : ∀ j, j < d → f j = g j) : fill d f = fill d g := by
  unfold fill
  congr 1
  apply List.map_congr_left
  intro j hj
  rw [h j (List.mem_range.1 hj)]
theorem strOf_congr {d : Nat} {f g : Nat → Int} (h : ∀ j, j < d → f j = g j) : strOf d f = strOf d g := by
  unfold strOf
  apply List.map_congr_left
  intro j hj
  rw [h j (List.mem_range.1 hj)]
theorem fill_get (d : Nat) (f : Nat → Int) (k : Nat) (h : k < d) : (fill d f)[k]? = some (.int .u8 (f k)) := by
  simp [fill, h]
theorem fill_zero (d : Nat) : madeCells #[Value.int .u8 0] d = fill d fun _ => 0 := by
  apply Array.ext
  · simp [madeCells, fill]
  · intro i h1 h2
    simp [madeCells, fill, Nat.mod_one]
theorem fill_set (d : Nat) (f : Nat → Int) (k : Nat) (v : Int) : (fill d f).setIfInBounds k (.int .u8 v) = fill d fun j => if j = k then v else f j := by
  apply Array.ext
  · simp [fill]
  · intro i h1 h2
    simp only [fill, Array.size_setIfInBounds, List.size_toArray, List.length_map, List.length_range] at h1 h2
    simp only [fill, List.getElem_toArray, List.getElem_map, List.getElem_range]
    by_cases e : k = i
    · subst e; simp
    · simp [e, Ne.symm e]

theorem conv_fill {P : Program} (w : World) (src dst e : TypeId) (hs : P.underlying src = some (.slice e)) (he : P.underlying e = some (.int .u8)) (hd : P.underlying dst = some .string)
    {g t d c : Nat} {f : Nat → Int} (h : Has w g t (fill d f)) (hf : ∀ j, j < d → 0 ≤ f j ∧ f j < 256) :
    (convert src dst (.slice (some ⟨g, 0, none⟩) d c)).run P w = .ok (.string ⟨(strOf d f).toArray⟩) w := by
  have hl := strOf_len d f
  have := run_convert_bytes_back (P := P) w src dst e ⟨g, 0, none⟩ c (strOf d f) hs he hd (fun j hj => by
    have hj' : j < d := by rw [hl] at hj; exact hj
    have e0 : (Addr.add ⟨g, 0, none⟩ j) = ⟨g, j, none⟩ := by unfold Addr.add; split <;> simp_all
    rw [e0, h.cell, fill_get d f j hj']
    have hb := hf j hj'
    simp [strOf]
    omega)
  rw [hl] at this
  exact this

end Go.Proofs.YtgkgimfdbkpbdaaDoor
