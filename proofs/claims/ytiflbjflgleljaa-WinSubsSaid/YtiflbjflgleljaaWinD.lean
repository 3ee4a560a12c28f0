/- What win's byte orders return: a function value that tells by how many bits each byte is shifted (contracts of the functions; widths of 1, 2, 4 and 8 bytes). -/
import Derived.Test.YtiflbjflgleljaaWinC
import Derived.Test.YtiflbjflgleljaaWinM
namespace Go.Proofs.Ytiflbjflgleljaa
open Go.RowKit
set_option linter.unusedVariables false

set_option maxHeartbeats 400000 in
theorem big_any (width i : Int) (w0 : 1 ≤ width) (w1 : width ≤ 8) (i0 : 0 ≤ i) (i1 : i < width) (a : Addr) (w : World) (hc : w.cell? a = some (.int .i64 width)) :
    Calls Try.prog 55 #[.int .i64 i, .pointer (some a)] w fun e w' => e = .returned (.int .i64 (8 * (width - 1 - i))) ∧ w = w' := by
  go_enter Try.func55, Try.ntmps55
  go_wp2
  go_returns
  exact ⟨rfl, rfl⟩

set_option maxHeartbeats 400000 in
theorem little_any (i : Int) (i0 : 0 ≤ i) (i1 : i < 8) (w : World) :
    Calls Try.prog 56 #[.int .i64 i] w fun e w' => e = .returned (.int .i64 (8 * i)) ∧ w = w' := by
  go_enter Try.func56, Try.ntmps56
  go_wp2
  go_returns
  exact ⟨rfl, rfl⟩

set_option maxHeartbeats 400000 in
theorem order_big (width : Int) (w : World) :
    Calls Try.prog 44 #[.int .i64 width, .bool true] w fun e w' => e = .returned (.func (.func 55) #[] #[.pointer (some ⟨w.heap.size, 0, none⟩)]) ∧ w.alloc (.cells #[.int .i64 width] 3) = w' := by
  have hmf : ∀ (fn : Fn) (first cap : Array Value) (w : World), (Instr.makeFunc fn first cap).run Try.prog w = .ok (.func fn first cap) w := fun _ _ _ _ => rfl
  go_enter Try.func44, Try.ntmps44
  go_wp2
  go_returns
  exact ⟨rfl, rfl⟩

set_option maxHeartbeats 400000 in
theorem order_little (width : Int) (w : World) :
    Calls Try.prog 44 #[.int .i64 width, .bool false] w fun e w' => e = .returned (.func (.func 56) #[] #[]) ∧ w.alloc (.cells #[.int .i64 width] 3) = w' := by
  have hmf : ∀ (fn : Fn) (first cap : Array Value) (w : World), (Instr.makeFunc fn first cap).run Try.prog w = .ok (.func fn first cap) w := fun _ _ _ _ => rfl
  go_enter Try.func44, Try.ntmps44
  go_wp2
  go_returns
  exact ⟨rfl, rfl⟩

end Go.Proofs.Ytiflbjflgleljaa
