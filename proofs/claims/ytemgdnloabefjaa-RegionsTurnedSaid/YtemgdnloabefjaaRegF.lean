/- overlapping, New (contracts of the functions). -/
import Derived.Test.YtemgdnloabefjaaRegC
namespace Go.Proofs.Ytemgdnloabefjaa
open Go.RowKit Go.Conc
set_option linter.unusedVariables false
/-- The iterator in memory. -/
def OverAt (w : World) (g gs gl gh : Nat) (lo hi : Int) : Prop :=
  w.cell? ⟨gs, 0, none⟩ = some (.pointer (some ⟨g, 0, none⟩)) ∧ w.cell? ⟨gl, 0, none⟩ = some (.int .i64 lo) ∧ w.cell? ⟨gh, 0, none⟩ = some (.int .i64 hi)
set_option maxRecDepth 100000 in
theorem over_ret (g : Nat) (lo hi : Int) (w : World) :
    Calls Try.prog 55 #[.pointer (some ⟨g, 0, none⟩), .int .i64 lo, .int .i64 hi] w fun e w' => ∃ gs gl gh : Nat, e = .returned (.func (.func 75) #[] #[.pointer (some ⟨gs, 0, none⟩), .pointer (some ⟨gl, 0, none⟩), .pointer (some ⟨gh, 0, none⟩)]) ∧ OverAt w' g gs gl gh lo hi ∧ Bw w w' := by
  have H : Hid (OverAt (((w.alloc (.cells #[.pointer (some ⟨g, 0, none⟩)] 23)).alloc (.cells #[.int .i64 lo] 3)).alloc (.cells #[.int .i64 hi] 3)) g w.heap.size (w.heap.size + 1) (w.heap.size + 1 + 1) lo hi) := by
    refine hid ⟨?_, ?_, ?_⟩
    · exact (((Has.new w _ _).alloc _).alloc _).cell 0
    · have h := ((Has.new (w.alloc (.cells #[.pointer (some ⟨g, 0, none⟩)] 23)) 3 #[.int .i64 lo]).alloc (.cells #[.int .i64 hi] 3)).cell 0
      simpa using h
    · have h := (Has.new ((w.alloc (.cells #[.pointer (some ⟨g, 0, none⟩)] 23)).alloc (.cells #[.int .i64 lo] 3)) 3 #[.int .i64 hi]).cell 0
      simpa using h
  have HB := hid ((((Bw.refl w).alloc (.cells #[.pointer (some ⟨g, 0, none⟩)] 23)).alloc (.cells #[.int .i64 lo] 3)).alloc (.cells #[.int .i64 hi] 3))
  go_enter Try.func55, Try.ntmps55
  go_wp2
  go_returns
  exact ⟨_, _, _, rfl, H.out, HB.out⟩
set_option maxRecDepth 100000 in
theorem new_ret (w : World) :
    Calls Try.prog 14 #[] w fun e w' => ∃ g : Nat, e = .returned (.pointer (some ⟨g, 0, none⟩)) ∧ SetAt w' g [] ∧ w.heap.size ≤ g ∧ Bw w w' := by
  have H : Hid (SetAt (w.alloc (.cells #[.slice none 0 0] 81)) w.heap.size []) := hid ⟨_, (Has.new w _ _).cell 0, .inl ⟨rfl, rfl⟩⟩
  have HB := hid ((Bw.refl w).alloc (.cells #[.slice none 0 0] 81))
  go_enter Try.func14, Try.ntmps14
  go_wp2
  go_returns
  exact ⟨_, rfl, H.out, Nat.le_refl _, HB.out⟩
end Go.Proofs.Ytemgdnloabefjaa
