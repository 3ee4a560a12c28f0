/- A row of tokens that a call owns. -/
import Derived.Test.YtaggoiikkdlbdaaDoorTokKit
import Derived.Test.YtaggoiikkdlbdaaDoorRowB
namespace Go.Proofs.YtaggoiikkdlbdaaDoor
open Go.RowKit
set_option linter.unusedVariables false
theorem tokInfo : (Tryd.prog.info? 31).map (fun i => (i.zero, i.size, i.bytes)) = some (some (.agg #[.int .u8 0, .int .i64 0, .int .i64 0]), 3, 24) := by kernel_rfl
end Go.Proofs.YtaggoiikkdlbdaaDoor
