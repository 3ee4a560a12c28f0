/- What win's byte orders return: a function value that tells by how many bits each byte is shifted (contracts of the functions; widths of 1, 2, 4 and 8 bytes). -/
import Derived.Test.YtgkgimfdbkpbdaaDoorWinC0
import Derived.Test.YtgkgimfdbkpbdaaDoorWinM
namespace Go.Proofs.YtgkgimfdbkpbdaaDoor
open Go.RowKit
set_option linter.unusedVariables false

set_option maxHeartbeats 400000 in
theorem big_any (width i : Int) (w0 : 1 ≤ width) (w1 : width ≤ 8) (i0 : 0 ≤ i) (i1 : i < width) (a : Addr) (w : World) (hc : w.cell? a = some (.int .i64 width)) :
    Calls Tryd.prog 68 #[.int .i64 i, .pointer (some a)] w fun e w' => e = .returned (.int .i64 (8 * (width - 1 - i))) ∧ w = w' := by
  go_enter Tryd.func68, Tryd.ntmps68
  go_wp2
  go_returns
  exact ⟨rfl, rfl⟩

set_option maxHeartbeats 400000 in
theorem little_any (i : Int) (i0 : 0 ≤ i) (i1 : i < 8) (w : World) :
    Calls Tryd.prog 69 #[.int .i64 i] w fun e w' => e = .returned (.int .i64 (8 * i)) ∧ w = w' := by
  go_enter Tryd.func69, Tryd.ntmps69
  go_wp2
  go_returns
  exact ⟨rfl, rfl⟩

set_option maxHeartbeats 400000 in
theorem order_big (width : Int) (w : World) :
    Calls Tryd.prog 63 #[.int .i64 width, .bool true] w fun e w' => e = .returned (.func (.func 68) #[] #[.pointer (some ⟨w.heap.size, 0, none⟩)]) ∧ w.alloc (.cells #[.int .i64 width] 3) = w' := by
  have hmf : ∀ (fn : Fn) (first cap : Array Value) (w : World), (Instr.makeFunc fn first cap).run Tryd.prog w = .ok (.func fn first cap) w := fun _ _ _ _ => rfl
  go_enter Tryd.func63, Tryd.ntmps63
  go_wp2
  go_returns
  exact ⟨rfl, rfl⟩

set_option maxHeartbeats 400000 in
theorem order_little (width : Int) (w : World) :
    Calls Tryd.prog 63 #[.int .i64 width, .bool false] w fun e w' => e = .returned (.func (.func 69) #[] #[]) ∧ w.alloc (.cells #[.int .i64 width] 3) = w' := by
  have hmf : ∀ (fn : Fn) (first cap : Array Value) (w : World), (Instr.makeFunc fn first cap).run Tryd.prog w = .ok (.func fn first cap) w := fun _ _ _ _ => rfl
  go_enter Tryd.func63, Tryd.ntmps63
  go_wp2
  go_returns
  exact ⟨rfl, rfl⟩

end Go.Proofs.YtgkgimfdbkpbdaaDoor
