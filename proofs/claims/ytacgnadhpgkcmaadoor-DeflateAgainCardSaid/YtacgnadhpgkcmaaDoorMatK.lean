/- A row of tokens that a call owns. -/
import Derived.Test.YtacgnadhpgkcmaaDoorTokKit
import Derived.Test.YtacgnadhpgkcmaaDoorRowB
namespace Go.Proofs.YtacgnadhpgkcmaaDoor
open Go.RowKit
set_option linter.unusedVariables false
theorem tokInfo : (Tryd.prog.info? 30).map (fun i => (i.zero, i.size, i.bytes)) = some (some (.agg #[.int .u8 0, .int .i64 0, .int .i64 0]), 3, 24) := by kernel_rfl
end Go.Proofs.YtacgnadhpgkcmaaDoor
