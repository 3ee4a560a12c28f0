/- The examples that every statement of layer 1 asks beside what it says: they are answered as the document has them (a contract of the statements' own function live). -/
import Derived.Test.YtiflbjflgleljaaWinB
import Derived.Test.YtiflbjflgleljaaWinG
import Derived.Test.YtiflbjflgleljaaWinJ
namespace Go.Proofs.Ytiflbjflgleljaa
open Go.RowKit
set_option linter.unusedVariables false

def abcd : ByteArray := ⟨#[97, 98, 99, 100]⟩
def bc : ByteArray := ⟨#[98, 99]⟩
theorem l_align (w : World) : Calls Try.prog 17 #[.int .i64 5, .int .i64 4] w fun e w' => e = .returned (.tuple #[.int .i64 8, .bool true]) ∧ w = w' := by
  have h := align_any 5 4 w
  rwa [show alignN 5 4 = 8 by decide, show alignB 5 4 = true by decide] at h
theorem l_add (w : World) : Calls Try.prog 13 #[.int .i64 4611686018427387904, .int .i64 1] w fun e w' => e = .returned (.tuple #[.int .i64 0, .bool false]) ∧ w = w' := by
  have h := add_any 4611686018427387904 1 w
  rwa [show addN 4611686018427387904 1 = 0 by decide, show addB 4611686018427387904 1 = false by decide] at h
theorem l_bytes (w : World) : Calls Try.prog 20 #[.int .u64 258, .int .i64 2, .bool true] w fun e w' => e = .returned (.tuple #[.string ⟨#[1, 2]⟩, .int .i64 0]) ∧ Bw w w' := by
  have h := bytes_any 258 2 true w
  rwa [show bytesV 258 2 true = ⟨#[1, 2]⟩ by decide +kernel, show bytesE 258 2 = 0 by decide +kernel] at h
theorem l_of (w : World) : Calls Try.prog 22 #[.string abcd] w fun e w' => e = .returned (.agg #[.int .i64 0, .string abcd]) ∧ Bw w w' := of_any _ w
theorem l_sub (w : World) : Calls Try.prog 23 #[.agg #[.int .i64 0, .string abcd], .int .i64 1, .int .i64 2] w fun e w' => e = .returned (.tuple #[.agg #[.int .i64 1, .string bc], .int .i64 0]) ∧ Bw w w' := by
  have h := sub_any 0 (by decide) (by decide) abcd (by decide) 1 2 w
  rwa [show subB abcd.size 0 1 2 = 1 by decide +kernel, show subS abcd 1 2 = bc by decide +kernel, show subE abcd.size 1 2 = 0 by decide +kernel] at h
theorem l_cut (w : World) : Calls Try.prog 23 #[.agg #[.int .i64 1, .string bc], .int .i64 1, .int .i64 2] w fun e w' => e = .returned (.tuple #[.agg #[.int .i64 0, .string ⟨#[]⟩], .int .i64 2]) ∧ Bw w w' := by
  have h := sub_any 1 (by decide) (by decide) bc (by decide) 1 2 w
  rwa [show subB bc.size 1 1 2 = 0 by decide +kernel, show subS bc 1 2 = ⟨#[]⟩ by decide +kernel, show subE bc.size 1 2 = 2 by decide +kernel] at h
theorem l_uint (w : World) : Calls Try.prog 28 #[.agg #[.int .i64 1, .string bc], .int .i64 0, .int .i64 2, .bool true] w fun e w' => e = .returned (.tuple #[.int .u64 25187, .int .i64 0]) ∧ Bw w w' := by
  have h := uint_any 1 (by decide) (by decide) bc (by decide) 0 2 true w
  rwa [show uintV bc 0 2 true = 25187 by decide +kernel, show uintE bc.size 0 2 = 0 by decide +kernel] at h
theorem l_base (w : World) : Calls Try.prog 27 #[.agg #[.int .i64 1, .string bc]] w fun e w' => e = .returned (.int .i64 1) ∧ Bw w w' := base_any 1 bc (by decide) w

set_option maxRecDepth 100000 in
set_option maxHeartbeats 2000000 in
theorem live_any (w : World) :
    Calls Try.prog 19 #[] w fun e w' => e = .returned (.bool true) ∧ Bw w w' := by
  go_enter Try.func19, Try.ntmps19
  go_wp2_with fail
  refine (l_align _).mono ?_
  rintro e w1 ⟨rfl, rfl⟩
  go_wp2_with fail
  refine (l_add _).mono ?_
  rintro e w2 ⟨rfl, rfl⟩
  go_wp2_with fail
  refine (l_bytes _).mono ?_
  rintro e w3 ⟨rfl, h3⟩
  go_wp2_with fail
  refine (l_of _).mono ?_
  rintro e w4 ⟨rfl, h4⟩
  go_wp2_with fail
  refine (l_sub _).mono ?_
  rintro e w5 ⟨rfl, h5⟩
  have H5 := Has.new w5 34 #[.int .i64 1, .string bc]
  have c50 := H5.cell 0
  have c51 := H5.cell 1
  go_wp2_with fail
  refine (l_uint _).mono ?_
  rintro e w6 ⟨rfl, h6⟩
  have H6 := h6.has H5
  have c60 : w6.cell? ⟨w5.heap.size, 0, none⟩ = some (.int .i64 1) := H6.cell 0
  have c61 : w6.cell? ⟨w5.heap.size, 1, none⟩ = some (.string bc) := H6.cell 1
  clear c50 c51
  go_wp2_with fail
  refine (l_cut _).mono ?_
  rintro e w7 ⟨rfl, h7⟩
  have H7 := h7.has H6
  have H8 := H7.alloc (.cells #[.int .i64 0, .string ⟨#[]⟩] 34)
  have c70 : (w7.alloc (.cells #[.int .i64 0, .string ⟨#[]⟩] 34)).cell? ⟨w5.heap.size, 0, none⟩ = some (.int .i64 1) := H8.cell 0
  have c71 : (w7.alloc (.cells #[.int .i64 0, .string ⟨#[]⟩] 34)).cell? ⟨w5.heap.size, 1, none⟩ = some (.string bc) := H8.cell 1
  clear c60 c61
  go_wp2_with fail
  refine (l_base _).mono ?_
  rintro e w9 ⟨rfl, h9⟩
  go_wp2
  go_returns
  exact ⟨rfl, (h3.trans (h4.trans (h5.alloc _))).trans (h6.trans ((h7.alloc _).trans h9))⟩

end Go.Proofs.Ytiflbjflgleljaa
