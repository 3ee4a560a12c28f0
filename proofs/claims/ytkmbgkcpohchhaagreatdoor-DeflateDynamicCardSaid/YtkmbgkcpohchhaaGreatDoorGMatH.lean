import Derived.Test.YtkmbgkcpohchhaaGreatDoorGRowB
import Derived.Laws.BitsAllLaws
import Derived.Laws.ShiftsVarLaws
import Derived.Test.YtkmbgkcpohchhaaGreatDoorGInfP
import Derived.Test.YtkmbgkcpohchhaaGreatDoorGRefG
import Derived.Test.YtkmbgkcpohchhaaGreatDoorGInfD
import Derived.StillTailTactics
import Derived.Test.YtkmbgkcpohchhaaGreatDoorGInfK
namespace Go.Proofs.YtkmbgkcpohchhaaGreatDoor
open Go.RowKit
set_option linter.unusedVariables false
set_option maxRecDepth 100000 in
theorem rlen_257 (w : World) : Calls Tryz.prog 39 #[.int .i64 257] w fun e w' => e = .returned (.tuple #[.int .i64 3, .int .i64 0]) ∧ w' = w := by
  go_enter Tryz.func39, Tryz.ntmps39
  go_wp2
  go_returns
  exact ⟨rfl, rfl⟩
set_option maxRecDepth 100000 in
theorem rlen_258 (w : World) : Calls Tryz.prog 39 #[.int .i64 258] w fun e w' => e = .returned (.tuple #[.int .i64 4, .int .i64 0]) ∧ w' = w := by
  go_enter Tryz.func39, Tryz.ntmps39
  go_wp2
  go_returns
  exact ⟨rfl, rfl⟩
set_option maxRecDepth 100000 in
theorem rlen_259 (w : World) : Calls Tryz.prog 39 #[.int .i64 259] w fun e w' => e = .returned (.tuple #[.int .i64 5, .int .i64 0]) ∧ w' = w := by
  go_enter Tryz.func39, Tryz.ntmps39
  go_wp2
  go_returns
  exact ⟨rfl, rfl⟩
set_option maxRecDepth 100000 in
theorem rlen_260 (w : World) : Calls Tryz.prog 39 #[.int .i64 260] w fun e w' => e = .returned (.tuple #[.int .i64 6, .int .i64 0]) ∧ w' = w := by
  go_enter Tryz.func39, Tryz.ntmps39
  go_wp2
  go_returns
  exact ⟨rfl, rfl⟩
set_option maxRecDepth 100000 in
theorem rlen_261 (w : World) : Calls Tryz.prog 39 #[.int .i64 261] w fun e w' => e = .returned (.tuple #[.int .i64 7, .int .i64 0]) ∧ w' = w := by
  go_enter Tryz.func39, Tryz.ntmps39
  go_wp2
  go_returns
  exact ⟨rfl, rfl⟩
set_option maxRecDepth 100000 in
theorem rlen_262 (w : World) : Calls Tryz.prog 39 #[.int .i64 262] w fun e w' => e = .returned (.tuple #[.int .i64 8, .int .i64 0]) ∧ w' = w := by
  go_enter Tryz.func39, Tryz.ntmps39
  go_wp2
  go_returns
  exact ⟨rfl, rfl⟩
set_option maxRecDepth 100000 in
theorem rlen_263 (w : World) : Calls Tryz.prog 39 #[.int .i64 263] w fun e w' => e = .returned (.tuple #[.int .i64 9, .int .i64 0]) ∧ w' = w := by
  go_enter Tryz.func39, Tryz.ntmps39
  go_wp2
  go_returns
  exact ⟨rfl, rfl⟩
set_option maxRecDepth 100000 in
theorem rlen_264 (w : World) : Calls Tryz.prog 39 #[.int .i64 264] w fun e w' => e = .returned (.tuple #[.int .i64 10, .int .i64 0]) ∧ w' = w := by
  go_enter Tryz.func39, Tryz.ntmps39
  go_wp2
  go_returns
  exact ⟨rfl, rfl⟩
set_option maxRecDepth 100000 in
theorem rlen_265 (w : World) : Calls Tryz.prog 39 #[.int .i64 265] w fun e w' => e = .returned (.tuple #[.int .i64 11, .int .i64 1]) ∧ w' = w := by
  go_enter Tryz.func39, Tryz.ntmps39
  go_wp2
  go_returns
  exact ⟨rfl, rfl⟩
set_option maxRecDepth 100000 in
theorem rlen_266 (w : World) : Calls Tryz.prog 39 #[.int .i64 266] w fun e w' => e = .returned (.tuple #[.int .i64 13, .int .i64 1]) ∧ w' = w := by
  go_enter Tryz.func39, Tryz.ntmps39
  go_wp2
  go_returns
  exact ⟨rfl, rfl⟩
set_option maxRecDepth 100000 in
theorem rlen_267 (w : World) : Calls Tryz.prog 39 #[.int .i64 267] w fun e w' => e = .returned (.tuple #[.int .i64 15, .int .i64 1]) ∧ w' = w := by
  go_enter Tryz.func39, Tryz.ntmps39
  go_wp2
  go_returns
  exact ⟨rfl, rfl⟩
set_option maxRecDepth 100000 in
theorem rlen_268 (w : World) : Calls Tryz.prog 39 #[.int .i64 268] w fun e w' => e = .returned (.tuple #[.int .i64 17, .int .i64 1]) ∧ w' = w := by
  go_enter Tryz.func39, Tryz.ntmps39
  go_wp2
  go_returns
  exact ⟨rfl, rfl⟩
set_option maxRecDepth 100000 in
theorem rlen_269 (w : World) : Calls Tryz.prog 39 #[.int .i64 269] w fun e w' => e = .returned (.tuple #[.int .i64 19, .int .i64 2]) ∧ w' = w := by
  go_enter Tryz.func39, Tryz.ntmps39
  go_wp2
  go_returns
  exact ⟨rfl, rfl⟩
set_option maxRecDepth 100000 in
theorem rlen_270 (w : World) : Calls Tryz.prog 39 #[.int .i64 270] w fun e w' => e = .returned (.tuple #[.int .i64 23, .int .i64 2]) ∧ w' = w := by
  go_enter Tryz.func39, Tryz.ntmps39
  go_wp2
  go_returns
  exact ⟨rfl, rfl⟩
set_option maxRecDepth 100000 in
theorem rlen_271 (w : World) : Calls Tryz.prog 39 #[.int .i64 271] w fun e w' => e = .returned (.tuple #[.int .i64 27, .int .i64 2]) ∧ w' = w := by
  go_enter Tryz.func39, Tryz.ntmps39
  go_wp2
  go_returns
  exact ⟨rfl, rfl⟩
set_option maxRecDepth 100000 in
theorem rlen_272 (w : World) : Calls Tryz.prog 39 #[.int .i64 272] w fun e w' => e = .returned (.tuple #[.int .i64 31, .int .i64 2]) ∧ w' = w := by
  go_enter Tryz.func39, Tryz.ntmps39
  go_wp2
  go_returns
  exact ⟨rfl, rfl⟩
set_option maxRecDepth 100000 in
theorem rlen_273 (w : World) : Calls Tryz.prog 39 #[.int .i64 273] w fun e w' => e = .returned (.tuple #[.int .i64 35, .int .i64 3]) ∧ w' = w := by
  go_enter Tryz.func39, Tryz.ntmps39
  go_wp2
  go_returns
  exact ⟨rfl, rfl⟩
set_option maxRecDepth 100000 in
theorem rlen_274 (w : World) : Calls Tryz.prog 39 #[.int .i64 274] w fun e w' => e = .returned (.tuple #[.int .i64 43, .int .i64 3]) ∧ w' = w := by
  go_enter Tryz.func39, Tryz.ntmps39
  go_wp2
  go_returns
  exact ⟨rfl, rfl⟩
set_option maxRecDepth 100000 in
theorem rlen_275 (w : World) : Calls Tryz.prog 39 #[.int .i64 275] w fun e w' => e = .returned (.tuple #[.int .i64 51, .int .i64 3]) ∧ w' = w := by
  go_enter Tryz.func39, Tryz.ntmps39
  go_wp2
  go_returns
  exact ⟨rfl, rfl⟩
set_option maxRecDepth 100000 in
theorem rlen_276 (w : World) : Calls Tryz.prog 39 #[.int .i64 276] w fun e w' => e = .returned (.tuple #[.int .i64 59, .int .i64 3]) ∧ w' = w := by
  go_enter Tryz.func39, Tryz.ntmps39
  go_wp2
  go_returns
  exact ⟨rfl, rfl⟩
set_option maxRecDepth 100000 in
theorem rlen_277 (w : World) : Calls Tryz.prog 39 #[.int .i64 277] w fun e w' => e = .returned (.tuple #[.int .i64 67, .int .i64 4]) ∧ w' = w := by
  go_enter Tryz.func39, Tryz.ntmps39
  go_wp2
  go_returns
  exact ⟨rfl, rfl⟩
set_option maxRecDepth 100000 in
theorem rlen_278 (w : World) : Calls Tryz.prog 39 #[.int .i64 278] w fun e w' => e = .returned (.tuple #[.int .i64 83, .int .i64 4]) ∧ w' = w := by
  go_enter Tryz.func39, Tryz.ntmps39
  go_wp2
  go_returns
  exact ⟨rfl, rfl⟩
set_option maxRecDepth 100000 in
theorem rlen_279 (w : World) : Calls Tryz.prog 39 #[.int .i64 279] w fun e w' => e = .returned (.tuple #[.int .i64 99, .int .i64 4]) ∧ w' = w := by
  go_enter Tryz.func39, Tryz.ntmps39
  go_wp2
  go_returns
  exact ⟨rfl, rfl⟩
set_option maxRecDepth 100000 in
theorem rlen_280 (w : World) : Calls Tryz.prog 39 #[.int .i64 280] w fun e w' => e = .returned (.tuple #[.int .i64 115, .int .i64 4]) ∧ w' = w := by
  go_enter Tryz.func39, Tryz.ntmps39
  go_wp2
  go_returns
  exact ⟨rfl, rfl⟩
set_option maxRecDepth 100000 in
theorem rlen_281 (w : World) : Calls Tryz.prog 39 #[.int .i64 281] w fun e w' => e = .returned (.tuple #[.int .i64 131, .int .i64 5]) ∧ w' = w := by
  go_enter Tryz.func39, Tryz.ntmps39
  go_wp2
  go_returns
  exact ⟨rfl, rfl⟩
set_option maxRecDepth 100000 in
theorem rlen_282 (w : World) : Calls Tryz.prog 39 #[.int .i64 282] w fun e w' => e = .returned (.tuple #[.int .i64 163, .int .i64 5]) ∧ w' = w := by
  go_enter Tryz.func39, Tryz.ntmps39
  go_wp2
  go_returns
  exact ⟨rfl, rfl⟩
set_option maxRecDepth 100000 in
theorem rlen_283 (w : World) : Calls Tryz.prog 39 #[.int .i64 283] w fun e w' => e = .returned (.tuple #[.int .i64 195, .int .i64 5]) ∧ w' = w := by
  go_enter Tryz.func39, Tryz.ntmps39
  go_wp2
  go_returns
  exact ⟨rfl, rfl⟩
set_option maxRecDepth 100000 in
theorem rlen_284 (w : World) : Calls Tryz.prog 39 #[.int .i64 284] w fun e w' => e = .returned (.tuple #[.int .i64 227, .int .i64 5]) ∧ w' = w := by
  go_enter Tryz.func39, Tryz.ntmps39
  go_wp2
  go_returns
  exact ⟨rfl, rfl⟩
set_option maxRecDepth 100000 in
theorem rlen_285 (w : World) : Calls Tryz.prog 39 #[.int .i64 285] w fun e w' => e = .returned (.tuple #[.int .i64 258, .int .i64 0]) ∧ w' = w := by
  go_enter Tryz.func39, Tryz.ntmps39
  go_wp2
  go_returns
  exact ⟨rfl, rfl⟩
set_option maxRecDepth 100000 in
theorem rdst_0 (w : World) : Calls Tryz.prog 40 #[.int .i64 0] w fun e w' => e = .returned (.tuple #[.int .i64 1, .int .i64 0]) ∧ w' = w := by
  go_enter Tryz.func40, Tryz.ntmps40
  go_wp2
  go_returns
  exact ⟨rfl, rfl⟩
set_option maxRecDepth 100000 in
theorem rdst_1 (w : World) : Calls Tryz.prog 40 #[.int .i64 1] w fun e w' => e = .returned (.tuple #[.int .i64 2, .int .i64 0]) ∧ w' = w := by
  go_enter Tryz.func40, Tryz.ntmps40
  go_wp2
  go_returns
  exact ⟨rfl, rfl⟩
set_option maxRecDepth 100000 in
theorem rdst_2 (w : World) : Calls Tryz.prog 40 #[.int .i64 2] w fun e w' => e = .returned (.tuple #[.int .i64 3, .int .i64 0]) ∧ w' = w := by
  go_enter Tryz.func40, Tryz.ntmps40
  go_wp2
  go_returns
  exact ⟨rfl, rfl⟩
set_option maxRecDepth 100000 in
theorem rdst_3 (w : World) : Calls Tryz.prog 40 #[.int .i64 3] w fun e w' => e = .returned (.tuple #[.int .i64 4, .int .i64 0]) ∧ w' = w := by
  go_enter Tryz.func40, Tryz.ntmps40
  go_wp2
  go_returns
  exact ⟨rfl, rfl⟩
set_option maxRecDepth 100000 in
theorem rdst_4 (w : World) : Calls Tryz.prog 40 #[.int .i64 4] w fun e w' => e = .returned (.tuple #[.int .i64 5, .int .i64 1]) ∧ w' = w := by
  go_enter Tryz.func40, Tryz.ntmps40
  go_wp2
  go_returns
  exact ⟨rfl, rfl⟩
set_option maxRecDepth 100000 in
theorem rdst_5 (w : World) : Calls Tryz.prog 40 #[.int .i64 5] w fun e w' => e = .returned (.tuple #[.int .i64 7, .int .i64 1]) ∧ w' = w := by
  go_enter Tryz.func40, Tryz.ntmps40
  go_wp2
  go_returns
  exact ⟨rfl, rfl⟩
set_option maxRecDepth 100000 in
theorem rdst_6 (w : World) : Calls Tryz.prog 40 #[.int .i64 6] w fun e w' => e = .returned (.tuple #[.int .i64 9, .int .i64 2]) ∧ w' = w := by
  go_enter Tryz.func40, Tryz.ntmps40
  go_wp2
  go_returns
  exact ⟨rfl, rfl⟩
set_option maxRecDepth 100000 in
theorem rdst_7 (w : World) : Calls Tryz.prog 40 #[.int .i64 7] w fun e w' => e = .returned (.tuple #[.int .i64 13, .int .i64 2]) ∧ w' = w := by
  go_enter Tryz.func40, Tryz.ntmps40
  go_wp2
  go_returns
  exact ⟨rfl, rfl⟩
set_option maxRecDepth 100000 in
theorem rdst_8 (w : World) : Calls Tryz.prog 40 #[.int .i64 8] w fun e w' => e = .returned (.tuple #[.int .i64 17, .int .i64 3]) ∧ w' = w := by
  go_enter Tryz.func40, Tryz.ntmps40
  go_wp2
  go_returns
  exact ⟨rfl, rfl⟩
set_option maxRecDepth 100000 in
theorem rdst_9 (w : World) : Calls Tryz.prog 40 #[.int .i64 9] w fun e w' => e = .returned (.tuple #[.int .i64 25, .int .i64 3]) ∧ w' = w := by
  go_enter Tryz.func40, Tryz.ntmps40
  go_wp2
  go_returns
  exact ⟨rfl, rfl⟩
set_option maxRecDepth 100000 in
theorem rdst_10 (w : World) : Calls Tryz.prog 40 #[.int .i64 10] w fun e w' => e = .returned (.tuple #[.int .i64 33, .int .i64 4]) ∧ w' = w := by
  go_enter Tryz.func40, Tryz.ntmps40
  go_wp2
  go_returns
  exact ⟨rfl, rfl⟩
set_option maxRecDepth 100000 in
theorem rdst_11 (w : World) : Calls Tryz.prog 40 #[.int .i64 11] w fun e w' => e = .returned (.tuple #[.int .i64 49, .int .i64 4]) ∧ w' = w := by
  go_enter Tryz.func40, Tryz.ntmps40
  go_wp2
  go_returns
  exact ⟨rfl, rfl⟩
set_option maxRecDepth 100000 in
theorem rdst_12 (w : World) : Calls Tryz.prog 40 #[.int .i64 12] w fun e w' => e = .returned (.tuple #[.int .i64 65, .int .i64 5]) ∧ w' = w := by
  go_enter Tryz.func40, Tryz.ntmps40
  go_wp2
  go_returns
  exact ⟨rfl, rfl⟩
set_option maxRecDepth 100000 in
theorem rdst_13 (w : World) : Calls Tryz.prog 40 #[.int .i64 13] w fun e w' => e = .returned (.tuple #[.int .i64 97, .int .i64 5]) ∧ w' = w := by
  go_enter Tryz.func40, Tryz.ntmps40
  go_wp2
  go_returns
  exact ⟨rfl, rfl⟩
set_option maxRecDepth 100000 in
theorem rdst_14 (w : World) : Calls Tryz.prog 40 #[.int .i64 14] w fun e w' => e = .returned (.tuple #[.int .i64 129, .int .i64 6]) ∧ w' = w := by
  go_enter Tryz.func40, Tryz.ntmps40
  go_wp2
  go_returns
  exact ⟨rfl, rfl⟩
set_option maxRecDepth 100000 in
theorem rdst_15 (w : World) : Calls Tryz.prog 40 #[.int .i64 15] w fun e w' => e = .returned (.tuple #[.int .i64 193, .int .i64 6]) ∧ w' = w := by
  go_enter Tryz.func40, Tryz.ntmps40
  go_wp2
  go_returns
  exact ⟨rfl, rfl⟩
set_option maxRecDepth 100000 in
theorem rdst_16 (w : World) : Calls Tryz.prog 40 #[.int .i64 16] w fun e w' => e = .returned (.tuple #[.int .i64 257, .int .i64 7]) ∧ w' = w := by
  go_enter Tryz.func40, Tryz.ntmps40
  go_wp2
  go_returns
  exact ⟨rfl, rfl⟩
set_option maxRecDepth 100000 in
theorem rdst_17 (w : World) : Calls Tryz.prog 40 #[.int .i64 17] w fun e w' => e = .returned (.tuple #[.int .i64 385, .int .i64 7]) ∧ w' = w := by
  go_enter Tryz.func40, Tryz.ntmps40
  go_wp2
  go_returns
  exact ⟨rfl, rfl⟩
set_option maxRecDepth 100000 in
theorem rdst_18 (w : World) : Calls Tryz.prog 40 #[.int .i64 18] w fun e w' => e = .returned (.tuple #[.int .i64 513, .int .i64 8]) ∧ w' = w := by
  go_enter Tryz.func40, Tryz.ntmps40
  go_wp2
  go_returns
  exact ⟨rfl, rfl⟩
set_option maxRecDepth 100000 in
theorem rdst_19 (w : World) : Calls Tryz.prog 40 #[.int .i64 19] w fun e w' => e = .returned (.tuple #[.int .i64 769, .int .i64 8]) ∧ w' = w := by
  go_enter Tryz.func40, Tryz.ntmps40
  go_wp2
  go_returns
  exact ⟨rfl, rfl⟩
set_option maxRecDepth 100000 in
theorem rdst_20 (w : World) : Calls Tryz.prog 40 #[.int .i64 20] w fun e w' => e = .returned (.tuple #[.int .i64 1025, .int .i64 9]) ∧ w' = w := by
  go_enter Tryz.func40, Tryz.ntmps40
  go_wp2
  go_returns
  exact ⟨rfl, rfl⟩
set_option maxRecDepth 100000 in
theorem rdst_21 (w : World) : Calls Tryz.prog 40 #[.int .i64 21] w fun e w' => e = .returned (.tuple #[.int .i64 1537, .int .i64 9]) ∧ w' = w := by
  go_enter Tryz.func40, Tryz.ntmps40
  go_wp2
  go_returns
  exact ⟨rfl, rfl⟩
set_option maxRecDepth 100000 in
theorem rdst_22 (w : World) : Calls Tryz.prog 40 #[.int .i64 22] w fun e w' => e = .returned (.tuple #[.int .i64 2049, .int .i64 10]) ∧ w' = w := by
  go_enter Tryz.func40, Tryz.ntmps40
  go_wp2
  go_returns
  exact ⟨rfl, rfl⟩
set_option maxRecDepth 100000 in
theorem rdst_23 (w : World) : Calls Tryz.prog 40 #[.int .i64 23] w fun e w' => e = .returned (.tuple #[.int .i64 3073, .int .i64 10]) ∧ w' = w := by
  go_enter Tryz.func40, Tryz.ntmps40
  go_wp2
  go_returns
  exact ⟨rfl, rfl⟩
set_option maxRecDepth 100000 in
theorem rdst_24 (w : World) : Calls Tryz.prog 40 #[.int .i64 24] w fun e w' => e = .returned (.tuple #[.int .i64 4097, .int .i64 11]) ∧ w' = w := by
  go_enter Tryz.func40, Tryz.ntmps40
  go_wp2
  go_returns
  exact ⟨rfl, rfl⟩
set_option maxRecDepth 100000 in
theorem rdst_25 (w : World) : Calls Tryz.prog 40 #[.int .i64 25] w fun e w' => e = .returned (.tuple #[.int .i64 6145, .int .i64 11]) ∧ w' = w := by
  go_enter Tryz.func40, Tryz.ntmps40
  go_wp2
  go_returns
  exact ⟨rfl, rfl⟩
set_option maxRecDepth 100000 in
theorem rdst_26 (w : World) : Calls Tryz.prog 40 #[.int .i64 26] w fun e w' => e = .returned (.tuple #[.int .i64 8193, .int .i64 12]) ∧ w' = w := by
  go_enter Tryz.func40, Tryz.ntmps40
  go_wp2
  go_returns
  exact ⟨rfl, rfl⟩
set_option maxRecDepth 100000 in
theorem rdst_27 (w : World) : Calls Tryz.prog 40 #[.int .i64 27] w fun e w' => e = .returned (.tuple #[.int .i64 12289, .int .i64 12]) ∧ w' = w := by
  go_enter Tryz.func40, Tryz.ntmps40
  go_wp2
  go_returns
  exact ⟨rfl, rfl⟩
set_option maxRecDepth 100000 in
theorem rdst_28 (w : World) : Calls Tryz.prog 40 #[.int .i64 28] w fun e w' => e = .returned (.tuple #[.int .i64 16385, .int .i64 13]) ∧ w' = w := by
  go_enter Tryz.func40, Tryz.ntmps40
  go_wp2
  go_returns
  exact ⟨rfl, rfl⟩
set_option maxRecDepth 100000 in
theorem rdst_29 (w : World) : Calls Tryz.prog 40 #[.int .i64 29] w fun e w' => e = .returned (.tuple #[.int .i64 24577, .int .i64 13]) ∧ w' = w := by
  go_enter Tryz.func40, Tryz.ntmps40
  go_wp2
  go_returns
  exact ⟨rfl, rfl⟩
theorem rlen_any (s : Nat) (h0 : 257 ≤ s) (h1 : s ≤ 285) (w : World) : Calls Tryz.prog 39 #[.int .i64 s] w fun e w' => e = .returned (.tuple #[.int .i64 (mlenF s), .int .i64 (lenX s)]) ∧ w' = w := by
  have h : s = 257 ∨ s = 258 ∨ s = 259 ∨ s = 260 ∨ s = 261 ∨ s = 262 ∨ s = 263 ∨ s = 264 ∨ s = 265 ∨ s = 266 ∨ s = 267 ∨ s = 268 ∨ s = 269 ∨ s = 270 ∨ s = 271 ∨ s = 272 ∨ s = 273 ∨ s = 274 ∨ s = 275 ∨ s = 276 ∨ s = 277 ∨ s = 278 ∨ s = 279 ∨ s = 280 ∨ s = 281 ∨ s = 282 ∨ s = 283 ∨ s = 284 ∨ s = 285 := by omega
  rcases h with rfl | rfl | rfl | rfl | rfl | rfl | rfl | rfl | rfl | rfl | rfl | rfl | rfl | rfl | rfl | rfl | rfl | rfl | rfl | rfl | rfl | rfl | rfl | rfl | rfl | rfl | rfl | rfl | rfl
  · exact rlen_257 w
  · exact rlen_258 w
  · exact rlen_259 w
  · exact rlen_260 w
  · exact rlen_261 w
  · exact rlen_262 w
  · exact rlen_263 w
  · exact rlen_264 w
  · exact rlen_265 w
  · exact rlen_266 w
  · exact rlen_267 w
  · exact rlen_268 w
  · exact rlen_269 w
  · exact rlen_270 w
  · exact rlen_271 w
  · exact rlen_272 w
  · exact rlen_273 w
  · exact rlen_274 w
  · exact rlen_275 w
  · exact rlen_276 w
  · exact rlen_277 w
  · exact rlen_278 w
  · exact rlen_279 w
  · exact rlen_280 w
  · exact rlen_281 w
  · exact rlen_282 w
  · exact rlen_283 w
  · exact rlen_284 w
  · exact rlen_285 w
theorem rdst_any (s : Nat) (h0 : 0 ≤ s) (h1 : s ≤ 29) (w : World) : Calls Tryz.prog 40 #[.int .i64 s] w fun e w' => e = .returned (.tuple #[.int .i64 (dstF s), .int .i64 (dstX s)]) ∧ w' = w := by
  have h : s = 0 ∨ s = 1 ∨ s = 2 ∨ s = 3 ∨ s = 4 ∨ s = 5 ∨ s = 6 ∨ s = 7 ∨ s = 8 ∨ s = 9 ∨ s = 10 ∨ s = 11 ∨ s = 12 ∨ s = 13 ∨ s = 14 ∨ s = 15 ∨ s = 16 ∨ s = 17 ∨ s = 18 ∨ s = 19 ∨ s = 20 ∨ s = 21 ∨ s = 22 ∨ s = 23 ∨ s = 24 ∨ s = 25 ∨ s = 26 ∨ s = 27 ∨ s = 28 ∨ s = 29 := by omega
  rcases h with rfl | rfl | rfl | rfl | rfl | rfl | rfl | rfl | rfl | rfl | rfl | rfl | rfl | rfl | rfl | rfl | rfl | rfl | rfl | rfl | rfl | rfl | rfl | rfl | rfl | rfl | rfl | rfl | rfl | rfl
  · exact rdst_0 w
  · exact rdst_1 w
  · exact rdst_2 w
  · exact rdst_3 w
  · exact rdst_4 w
  · exact rdst_5 w
  · exact rdst_6 w
  · exact rdst_7 w
  · exact rdst_8 w
  · exact rdst_9 w
  · exact rdst_10 w
  · exact rdst_11 w
  · exact rdst_12 w
  · exact rdst_13 w
  · exact rdst_14 w
  · exact rdst_15 w
  · exact rdst_16 w
  · exact rdst_17 w
  · exact rdst_18 w
  · exact rdst_19 w
  · exact rdst_20 w
  · exact rdst_21 w
  · exact rdst_22 w
  · exact rdst_23 w
  · exact rdst_24 w
  · exact rdst_25 w
  · exact rdst_26 w
  · exact rdst_27 w
  · exact rdst_28 w
  · exact rdst_29 w
end Go.Proofs.YtkmbgkcpohchhaaGreatDoor
namespace Go.Proofs.YtkmbgkcpohchhaaGreatDoor
open Go.RowKit
set_option linter.unusedVariables false
theorem rlenR (i : Nat) (hi : i < 29) (w : World) : Calls Tryz.prog 39 #[.int .i64 ((257 + i : Nat) : Int)] w fun e w' => e = .returned (.tuple #[.int .i64 ((lenR i).1 : Nat), .int .i64 ((lenR i).2 : Nat)]) ∧ w' = w :=
  match i, hi with
  | 0, _ => rlen_257 w
  | 1, _ => rlen_258 w
  | 2, _ => rlen_259 w
  | 3, _ => rlen_260 w
  | 4, _ => rlen_261 w
  | 5, _ => rlen_262 w
  | 6, _ => rlen_263 w
  | 7, _ => rlen_264 w
  | 8, _ => rlen_265 w
  | 9, _ => rlen_266 w
  | 10, _ => rlen_267 w
  | 11, _ => rlen_268 w
  | 12, _ => rlen_269 w
  | 13, _ => rlen_270 w
  | 14, _ => rlen_271 w
  | 15, _ => rlen_272 w
  | 16, _ => rlen_273 w
  | 17, _ => rlen_274 w
  | 18, _ => rlen_275 w
  | 19, _ => rlen_276 w
  | 20, _ => rlen_277 w
  | 21, _ => rlen_278 w
  | 22, _ => rlen_279 w
  | 23, _ => rlen_280 w
  | 24, _ => rlen_281 w
  | 25, _ => rlen_282 w
  | 26, _ => rlen_283 w
  | 27, _ => rlen_284 w
  | 28, _ => rlen_285 w
  | n + 29, h => absurd h (by omega)
theorem rdistR (i : Nat) (hi : i < 30) (w : World) : Calls Tryz.prog 40 #[.int .i64 (i : Nat)] w fun e w' => e = .returned (.tuple #[.int .i64 ((distR i).1 : Nat), .int .i64 ((distR i).2 : Nat)]) ∧ w' = w :=
  match i, hi with
  | 0, _ => rdst_0 w
  | 1, _ => rdst_1 w
  | 2, _ => rdst_2 w
  | 3, _ => rdst_3 w
  | 4, _ => rdst_4 w
  | 5, _ => rdst_5 w
  | 6, _ => rdst_6 w
  | 7, _ => rdst_7 w
  | 8, _ => rdst_8 w
  | 9, _ => rdst_9 w
  | 10, _ => rdst_10 w
  | 11, _ => rdst_11 w
  | 12, _ => rdst_12 w
  | 13, _ => rdst_13 w
  | 14, _ => rdst_14 w
  | 15, _ => rdst_15 w
  | 16, _ => rdst_16 w
  | 17, _ => rdst_17 w
  | 18, _ => rdst_18 w
  | 19, _ => rdst_19 w
  | 20, _ => rdst_20 w
  | 21, _ => rdst_21 w
  | 22, _ => rdst_22 w
  | 23, _ => rdst_23 w
  | 24, _ => rdst_24 w
  | 25, _ => rdst_25 w
  | 26, _ => rdst_26 w
  | 27, _ => rdst_27 w
  | 28, _ => rdst_28 w
  | 29, _ => rdst_29 w
  | n + 30, h => absurd h (by omega)
end Go.Proofs.YtkmbgkcpohchhaaGreatDoor
namespace Go.Proofs.YtkmbgkcpohchhaaGreatDoor
open Go.RowKit Go.Conc
set_option linter.unusedVariables false
section
variable {B : Nat} {w : World} {fb g : Nat} {s : ByteArray} {k : Nat} {out : List UInt8} {lim : Nat} {v : Value}
set_option maxRecDepth 100000 in
set_option maxHeartbeats 4000000 in
theorem rmatch_any (hs : s.size ≤ 281474976710656) (hl : lim ≤ 1073741824) (last : Bool) (lt dt : List Int) (x : Nat) (hx : 257 ≤ x) (hx9 : x ≤ 320) (c : Value) (hc : CodeR w c dt) (h : Ref B w fb g s k out lim v) :
    Calls Tryz.prog 102 #[.pointer (some ⟨fb, 0, none⟩), .int .i64 x, c] w (DidR B fb g s lim (stMatch s lim last lt dt x k out) w) := by
  obtain ⟨i0, hinf, hz0, hz1, hz2⟩ := info_parts byteInfo
  have HX := hid (match_eq s lim last lt dt x k out)
  have HI := hid h
  have HCO := hid hc.code
  obtain ⟨cb, coff, clen, ccap, crb, rfl, hcl, hci, hch⟩ := hc.ex
  have HCL := hid hcl
  have HCI := hid hci
  have HCH := hid hch
  have HW := hid (show Bw w (w.alloc (.cells #[.slice (some ⟨cb, coff, none⟩) clen ccap, .slice (some ⟨crb, 0, none⟩) clen clen] 129)) from (Bw.refl w).alloc _)
  have HN := hid (Has.new w 129 #[.slice (some ⟨cb, coff, none⟩) clen ccap, .slice (some ⟨crb, 0, none⟩) clen clen])
  have HI1 := hid (h.bw HW.out)
  clear h hc hcl hci hch
  by_cases h0 : 286 ≤ x
  · have HX := hid (HX.out.trans (if_pos h0))
    have t0 : decide (285 < (x : Int)) = true := decide_eq_true (by omega)
    have t1 : decide (285 < x) = true := decide_eq_true (by omega)
    go_enter Tryz.func102, Tryz.ntmps102
    go_wp2
    go_returns
    exact DidR.bad HX.out (KT.of_bw HW.out)
  · have HX := hid (HX.out.trans (if_neg h0))
    have t0 : decide (285 < (x : Int)) = false := decide_eq_false (by omega)
    have t1 : decide (285 < x) = false := decide_eq_false (by omega)
    obtain ⟨i, hi⟩ : ∃ i, x - 257 = i := ⟨_, rfl⟩
    have hxi : 257 + i = x := by omega
    have HLX := hid (fun W => rlenR i (by omega) W)
    rw [hxi] at HLX
    rw [hi] at HX
    obtain ⟨hl1, hl2⟩ := lenR_le i
    obtain ⟨l1, hl1e⟩ : ∃ l1, (lenR i).1 = l1 := ⟨_, rfl⟩
    obtain ⟨l2, hl2e⟩ : ∃ l2, (lenR i).2 = l2 := ⟨_, rfl⟩
    rw [hl1e, hl2e] at HX HLX
    rw [hl1e] at hl1
    rw [hl2e] at hl2
    clear hl1e hl2e hi h0 hxi
    go_enter Tryz.func102, Tryz.ntmps102
    go_wp2_with fail
    obtain ⟨nb, hnb⟩ : ∃ nb, w.heap.size = nb := ⟨_, rfl⟩
    rw [hnb] at HN ⊢
    have HNB := hid hnb
    have HK1 := hid (KT.of_bw HW.out : KT TJ B w _)
    have HCI1 := hid (HCI.out.bw HW.out)
    have HCH1 := hid (HW.out.has HCH.out)
    generalize w.alloc (.cells #[.slice (some ⟨cb, coff, none⟩) clen ccap, .slice (some ⟨crb, 0, none⟩) clen clen] 129) = W1 at *
    clear hnb
    refine (HLX.out _).mono ?_
    rintro e w1 ⟨rfl, rfl⟩
    go_wp2_with fail
    by_cases h1 : k + l2 ≤ 8 * s.size
    · have HX := hid (HX.out.trans (num_ok h1))
      refine (rbits_ok hs l2 (by omega) l1 (by omega) h1 HI1.out).mono ?_
      rintro e w2 ⟨rfl, hi2, hk2⟩
      have HI2 := hid hi2
      have HK2 := hid (HK1.out.trans hk2)
      have HN2 := hid (hk2.has HN.out (by decide))
      have HCI2 := hid (HCI1.out.kt hk2 (by decide))
      have HCH2 := hid (hk2.has HCH1.out (by decide))
      clear hi2 hk2
      have hb1 : bv s k l2 < 32 := Nat.lt_of_lt_of_le (bv_lt s k l2) (Nat.pow_le_pow_right (by decide) hl2 : 2 ^ l2 ≤ 2 ^ 5)
      obtain ⟨n, hn⟩ : ∃ n, l1 + bv s k l2 = n := ⟨_, rfl⟩
      have HY : Hid (stMatch s lim last lt dt x k out = sym1 s dt (k + l2) fun y k3 => if 30 ≤ y then .bad 3 else num s k3 (distR y).2 fun u k4 => if out.length < (distR y).1 + u then .bad 3 else if lim < out.length + n then .bad 11 else .go ⟨.sym last lt dt, k4, rep out ((distR y).1 + u) n⟩) := hid (by rw [HX.out, ← hn])
      rw [hn]
      have hn9 : n ≤ 300 := by omega
      clear hn hb1 h1 HX
      generalize k + l2 = k2 at *
      have HX := HY
      clear HY
      have b0 : w2.cell? ⟨nb, 0, none⟩ = some (.slice (some ⟨cb, coff, none⟩) clen ccap) := HN2.out.cell 0
      have b1 : w2.cell? ⟨nb, 1, none⟩ = some (.slice (some ⟨crb, 0, none⟩) clen clen) := HN2.out.cell 1
      have b2 : w2.cell? ⟨fb, 0, none⟩ = some (.pointer (some ⟨g, 0, none⟩)) := HI2.out.has.cell 0
      have HD := hid (show Bw w2 w2.drew from (Bw.refl w2).drewN 1)
      have HIE := hid (HI2.out.bw HD.out)
      have HSY := hid (rsym_any hs cb coff clen ccap crb dt HCO.out HCL.out (HCI2.out.bw HD.out) (HD.out.has HCH2.out) HIE.out)
      have HN3 := hid (HD.out.has HN2.out)
      have HK3 := hid (HK2.out.trans (KT.of_bw HD.out))
      go_wp2_with fail
      go_region_held3 (fun W => W.cell? ⟨nb, 0, none⟩ = some (.slice (some ⟨cb, coff, none⟩) clen ccap) ∧ W.cell? ⟨nb, 1, none⟩ = some (.slice (some ⟨crb, 0, none⟩) clen clen) ∧ W.cell? ⟨fb, 0, none⟩ = some (.pointer (some ⟨g, 0, none⟩)))
        (first | exact ⟨b0, b1, b2⟩ | exact ⟨s0, s1, s2⟩ | exact ⟨by assumption, by assumption, by assumption⟩)
        (first | (go_at_call 101; refine HSY.out.mono ?_; rintro e w4 ⟨rfl, hi4, hk4⟩; have HI4 := hid hi4; have HK4 := hid (HK3.out.trans hk4); have hn4 := hk4.has HN3.out (by decide); have s0 := hn4.cell 0; have s1 := hn4.cell 1; have s2 := hi4.has.cell 0; clear hi4 hk4 hn4))
      clear b0 b1 b2
      by_cases h2 : nextE dt s k2 = 0
      · have HX := hid (HX.out.trans (sym1_ok h2))
        have hy9 := nextV_lt h2
        have hyl := HCO.out.few
        have hk3 := nextK_le dt s k2 HI2.out.k8
        rw [h2]
        generalize nextV dt s k2 = y at *
        generalize nextK dt s k2 = k3 at *
        clear h2
        by_cases h3 : 30 ≤ y
        · have HX := hid (HX.out.trans (if_pos h3))
          have t0 : decide (29 < (y : Int)) = true := decide_eq_true (by omega)
          have t1 : decide (29 < y) = true := decide_eq_true (by omega)
          go_wp2
          go_returns
          exact DidR.bad HX.out HK4.out
        · have HX := hid (HX.out.trans (if_neg h3))
          have t0 : decide (29 < (y : Int)) = false := decide_eq_false (by omega)
          have t1 : decide (29 < y) = false := decide_eq_false (by omega)
          have HDX := hid (fun W => rdistR y (by omega) W)
          obtain ⟨hd1, hd2⟩ := distR_le y
          have hd0 := distR_pos y h3
          obtain ⟨d1, hd1e⟩ : ∃ d1, (distR y).1 = d1 := ⟨_, rfl⟩
          obtain ⟨d2, hd2e⟩ : ∃ d2, (distR y).2 = d2 := ⟨_, rfl⟩
          rw [hd1e] at hd1 hd0
          rw [hd2e] at hd2
          rw [hd1e, hd2e] at HX HDX
          clear hd1e hd2e h3
          go_wp2_with fail
          refine (HDX.out _).mono ?_
          rintro e w5 ⟨rfl, rfl⟩
          go_wp2_with fail
          by_cases h4 : k3 + d2 ≤ 8 * s.size
          · have HX := hid (HX.out.trans (num_ok h4))
            refine (rbits_ok hs d2 (by omega) d1 (by omega) h4 HI4.out).mono ?_
            rintro e w6 ⟨rfl, hi6, hk6⟩
            have HI6 := hid hi6
            have HK6 := hid (HK4.out.trans hk6)
            clear hi6 hk6
            have hb2 : bv s k3 d2 < 8192 := Nat.lt_of_lt_of_le (bv_lt s k3 d2) (Nat.pow_le_pow_right (by decide) hd2 : 2 ^ d2 ≤ 2 ^ 13)
            obtain ⟨d, hd⟩ : ∃ d, d1 + bv s k3 d2 = d := ⟨_, rfl⟩
            have HY : Hid (stMatch s lim last lt dt x k out = if out.length < d then .bad 3 else if lim < out.length + n then .bad 11 else .go ⟨.sym last lt dt, k3 + d2, rep out d n⟩) := hid (by rw [HX.out, ← hd])
            rw [hd]
            have hd9 : d ≤ 40000 := by omega
            have hd0 : 1 ≤ d := by omega
            clear hd hb2 h4 HX
            have HX := HY
            clear HY
            generalize k3 + d2 = k4 at *
            obtain ⟨ol, hol⟩ : ∃ ol, out.length = ol := ⟨_, rfl⟩
            have hown := HI6.out.own
            have hhas := HI6.out.has
            have hfew := HI6.out.few
            rw [hol] at HX hown hfew
            obtain ⟨vo, vc, rfl⟩ := own_slice hown
            have c1 : w6.cell? ⟨fb, 1, none⟩ = some (.slice vo ol vc) := hhas.cell 1
            have HOL := hid hol
            have HD6 := hid (show Bw w6 w6.drew from (Bw.refl w6).drewN 1)
            have HID := hid (HI6.out.bw HD6.out)
            have HKD := hid (HK6.out.trans (KT.of_bw HD6.out))
            clear hown hol hhas
            by_cases h5 : ol < d
            · have HX := hid (HX.out.trans (if_pos h5))
              have u0 : decide (ol < d) = true := decide_eq_true (by omega)
              have u1 : decide ((ol : Int) < d) = true := decide_eq_true (by omega)
              go_wp2
              go_returns
              exact DidR.bad HX.out HK6.out
            · have HX := hid (HX.out.trans (if_neg h5))
              have u0 : decide (ol < d) = false := decide_eq_false (by omega)
              have u1 : decide ((ol : Int) < d) = false := decide_eq_false (by omega)
              go_wp2_with fail
              clear c1 u0 u1 t0 t1
              have c1 : w6.drew.cell? ⟨fb, 1, none⟩ = some (.slice vo ol vc) := HID.out.has.cell 1
              have c2 : w6.drew.cell? ⟨fb, 2, none⟩ = some (.int .i64 lim) := HID.out.has.cell 2
              by_cases h6 : lim < ol + n
              · have HX := hid (HX.out.trans (if_pos h6))
                have d6 : decide (((lim : Nat) : Int) - ol < n) = true := decide_eq_true (by omega)
                go_region
                all_goals go_wp2
                all_goals go_returns
                all_goals exact DidR.bad HX.out HKD.out
              · have HX := hid (HX.out.trans (if_neg h6))
                have d6 : decide (((lim : Nat) : Int) - ol < n) = false := decide_eq_false (by omega)
                have HLEN := hid (fun j => (rep_len out d j).trans (by rw [HOL.out]))
                have HREP := hid (fun j => rep_byte out d j (by omega) (by rw [HOL.out]; omega))
                go_region
                have HID : Hid (Ref B w6.drew fb g s k4 out lim (.slice vo ol vc)) := HID
                have HKD : Hid (KT TJ B w w6.drew) := HKD
                clear c1 c2
                generalize w6.drew = W7 at *
                go_wp2
                go_loopw [17] (fun i wi => ∃ (j p : Nat) (v' : Value), j ≤ n ∧ Hid (ol + j = p) ∧ i = .int .i64 j ∧ Ref B wi fb g s k4 (rep out d j) lim v' ∧ KT TJ B w wi) (fun i _ => n - (intOf i).toNat)
                case atStart => exact ⟨0, ol, _, Nat.zero_le _, hid rfl, rfl, HID.out, HKD.out⟩
                case round =>
                  rename World => wi
                  obtain ⟨j, p, v', hj, HP, rfl, hi, hk⟩ := hrel
                  have HII := hid hi
                  have HKK := hid hk
                  clear hi hk
                  by_cases hjn : j < n
                  · have hown := HII.out.own
                    have hhas := HII.out.has
                    have hfew := HII.out.few
                    have hlj : (rep out d j).length = p := (HLEN.out j).trans HP.out
                    have hp9 : ol ≤ p ∧ p ≤ ol + n := by have := HP.out; omega
                    obtain ⟨hp1, hp2⟩ := hp9
                    obtain ⟨hjl, hjr⟩ := HREP.out j
                    have cj0 := fun (g cap : Nat) (hv : v' = .slice (some ⟨g, 0, none⟩) p cap) => own_byte (w := wi) (B := B) (g := g) (n := p) (cap := cap) (l := rep out d j) (by rw [← hv]; rw [hlj] at hown; exact hown) ((rep out d j).length - d) hjl
                    rw [hlj] at hown hfew
                    obtain ⟨gj, cj, rfl⟩ := own_some hown (by omega)
                    have cj0 := cj0 gj cj rfl
                    generalize (rep out d j)[(rep out d j).length - d]'hjl = bb at *
                    rw [hlj] at cj0
                    obtain ⟨q, hq⟩ : ∃ q, p - d = q := ⟨_, rfl⟩
                    have e1 : ((p : Nat) : Int) - d = (q : Nat) := by omega
                    have hqp : q < p := by omega
                    rw [hq] at cj0
                    have c1 : wi.cell? ⟨fb, 1, none⟩ = some (.slice (some ⟨gj, 0, none⟩) p cj) := hhas.cell 1
                    have hjn1 : (j : Int) < n := by omega
                    have HJR := hid hjr
                    have hp30 : p ≤ 1073741824 := by omega
                    have hdp : d ≤ p := by omega
                    clear hown hhas hjr hlj hjl hq
                    have b1 : (0 : Int) ≤ q := by omega
                    have b2 : (q : Int) < p := by omega
                    have b3 : (q : Int).toNat = q := rfl
                    have b4 : IntKind.i64.wrap (q : Int) = (q : Int) := IntWalk.i64_in _ (by omega)
                    go_wp2_with fail
                    have HOW := hid (show wi.ownsRow B 5 1 (.slice (some ⟨gj, 0, none⟩) p cj) p (bcs (rep out d j)) by have := HII.out.own; rw [HLEN.out j, HP.out] at this; exact this)
                    have hBz : B ≤ wi.heap.size := by have h1 := HII.out.gb; have h2 := Has.lt HII.out.rd; omega
                    have HWA := hid (show Bw wi (wi.alloc (.cells #[.int .u8 (bb.toNat : Nat)] 5)).drew from ((Bw.refl wi).alloc _).drewN 1)
                    have HWF := hid (show ∀ w5, (wi.alloc (.cells #[.int .u8 (bb.toNat : Nat)] 5)).drew.grownBy w5 (some gj) → w5.frozen? ⟨fb, 1, none⟩ = false from fun w5 hg => (((HII.out.bw HWA.out).grown hg).1).frozen 1)
                    have d1 : wi.drew.cell? ⟨fb, 1, none⟩ = some (.slice (some ⟨gj, 0, none⟩) p cj) := c1
                    have d2 : wi.drew.cell? ⟨gj, q, none⟩ = some (.int .u8 (bb.toNat : Nat)) := cj0
                    have d3 := HWA.out.cell c1
                    clear c1 cj0
                    go_region_law
                      (first
                        | (refine step_append_lies _ (by rfl) (.tmp 95) (.tmp 109) 41 (by rfl) B 5 i0 (.int .u8 0) 1 1 Tryz.underlying41 hinf hz0 hz1 hz2 (by rfl) (by decide) (.slice (some ⟨gj, 0, none⟩) p cj) p (bcs (rep out d j)) (by rfl) (HWA.out.own HOW.out) ⟨wi.heap.size, 0, none⟩ 1 1 [.int .u8 (bb.toNat : Nat)] (by rfl) rfl (cell_one_new _ _ _) (by intro u hu; simp at hu; rw [hu]; rfl) (by omega) (by unfold maxLen; omega) (by omega) (by simp only [World.size_alloc, World.drew]; omega) (wi.heap.size + 1) (by simp) ?_; intro g5 cp5 w5 hown5 hgrow5 hat5 hlt5; have HO5 := hid hown5; have HG5 := hid hgrow5; have z5 := HWF.out _ hgrow5; have y5 := ((HII.out.bw HWA.out).grown hgrow5).1.cell 1; clear hown5 hgrow5 hat5 hlt5))
                    all_goals go_wp2
                    all_goals have hl1 : (rep out d (j + 1)).length = p + 1 := by rw [HLEN.out (j + 1)]; have := HP.out; omega
                    all_goals have hap := (HII.out.bw HWA.out).app HG5.out (out' := rep out d (j + 1)) (v' := .slice (some ⟨g5, 0, none⟩) (p + 1) cp5) (by rw [hl1, HJR.out, bcs_snoc]; exact HO5.out) (by rw [hl1]; have := HP.out; omega)
                    all_goals exact ⟨⟨j + 1, p + 1, _, by omega, hid (by have := HP.out; omega), by go_num, hap.1, HKK.out.trans ((KT.of_bw HWA.out).trans hap.2)⟩, by simp [intOf]; omega⟩
                  · obtain rfl : j = n := by omega
                    go_wp2
                    go_returns
                    exact DidR.st HX.out HKK.out HII.out
          · have HX := hid (HX.out.trans (num_bad h4))
            refine (rbits_bad hs d2 (by omega) d1 (by omega) h4 HI4.out).mono ?_
            rintro e w6 ⟨rfl, hi6, hk6⟩
            have HK6 := hid (HK4.out.trans hk6)
            clear hi6 hk6
            go_wp2
            go_returns
            exact DidR.bad HX.out HK6.out
      · have HX := hid (HX.out.trans (sym1_bad h2))
        have t9 : ((nextE dt s k2) != 0) = true := by simp [h2]
        go_wp2
        go_returns
        exact DidR.bad HX.out HK4.out
    · have HX := hid (HX.out.trans (num_bad h1))
      refine (rbits_bad hs l2 (by omega) l1 (by omega) h1 HI1.out).mono ?_
      rintro e w2 ⟨rfl, hi2, hk2⟩
      have HK2 := hid (HK1.out.trans hk2)
      clear hi2 hk2
      go_wp2
      go_returns
      exact DidR.bad HX.out HK2.out
end
end Go.Proofs.YtkmbgkcpohchhaaGreatDoor
namespace Go.Proofs.YtkmbgkcpohchhaaGreatDoor
open Go.RowKit Go.Conc
set_option linter.unusedVariables false
def RanR (B : Nat) (fb g : Nat) (s : ByteArray) (lim : Nat) (last : Bool) (x : IOut) (w : World) (e : Ending) (w' : World) : Prop :=
  KT TJ B w w' ∧ ((∃ er, Leads s lim x (.bad er) ∧ er ≠ 0 ∧ e = .returned (.int .i64 er)) ∨ (∃ k' out' v, Leads s lim x (aft last k' out') ∧ e = .returned (.int .i64 0) ∧ Ref B w' fb g s k' out' lim v))
theorem RanR.bad {B fb g : Nat} {s : ByteArray} {lim : Nat} {last : Bool} {x : IOut} {w w' : World} {er : Int} (h : Leads s lim x (.bad er)) (h0 : er ≠ 0) (hk : KT TJ B w w') : RanR B fb g s lim last x w (.returned (.int .i64 er)) w' := ⟨hk, .inl ⟨er, h, h0, rfl⟩⟩
theorem RanR.ok {B fb g : Nat} {s : ByteArray} {lim : Nat} {last : Bool} {x : IOut} {w w' : World} {k : Nat} {out : List UInt8} {v : Value} (h : Leads s lim x (aft last k out)) (hk : KT TJ B w w') (hi : Ref B w' fb g s k out lim v) : RanR B fb g s lim last x w (.returned (.int .i64 0)) w' := ⟨hk, .inr ⟨k, out, v, h, rfl, hi⟩⟩
theorem match_fwd {s : ByteArray} {lim : Nat} {last : Bool} {lt dt : List Int} {x k : Nat} {out : List UInt8} (h8 : k ≤ 8 * s.size) : Fwd s k (stMatch s lim last lt dt x k out) := by
  have h3 : (3 : Int) ≠ 0 := by decide
  unfold stMatch
  exact ite_fwd (fun _ => .bad h3) fun _ => num_fwd (Nat.le_refl k) fun v k2 _ h2 h2' => sym1_fwd h2 h2' fun y k3 h3' h3'' => ite_fwd (fun _ => .bad h3) fun _ => num_fwd h3' fun u k4 _ h4 h4' => ite_fwd (fun _ => .bad h3) fun _ => ite_fwd (fun _ => .bad (by decide)) fun _ => .st h4 h4'
theorem match_ne {s : ByteArray} {lim : Nat} {last : Bool} {lt dt : List Int} {x k : Nat} {out : List UInt8} (h8 : k ≤ 8 * s.size) {er : Int} (h : stMatch s lim last lt dt x k out = .bad er) : er ≠ 0 := by
  rcases match_fwd (s := s) (lim := lim) (last := last) (lt := lt) (dt := dt) (x := x) (k := k) (out := out) h8 with ⟨e, he, h0⟩ | ⟨_, _, hn⟩
  · rw [h] at he; injection he with he; rw [he]; exact h0
  · exact absurd h (hn er)
def posX (w : World) (g : Nat) : Nat := (intOf ((w.cell? ⟨g, 1, none⟩).getD undef)).toNat
theorem posX_rx {w : World} {g k : Nat} {s : ByteArray} (h : Rx w g s k) : posX w g = k := by
  rw [posX, show w.cell? ⟨g, 1, none⟩ = some (.int .i64 k) from Has.cell (show Has w g _ _ from h) 1]; simp [intOf]
def SymIR (B : Nat) (w : World) (fb g lb db : Nat) (s : ByteArray) (k : Nat) (out : List UInt8) (lim : Nat) (last : Bool) (lt dt : List Int) (l1 l2 d1 d2 : Value) (wr : World) : Prop :=
  ∃ k1 out1 v1, Ref B wr fb g s k1 out1 lim v1 ∧ KT TJ B w wr ∧ Has wr lb 129 #[l1, l2] ∧ Has wr db 129 #[d1, d2] ∧ Leads s lim (.go ⟨.sym last lt dt, k, out⟩) (.go ⟨.sym last lt dt, k1, out1⟩)
section
variable {B : Nat} {w : World} {fb g : Nat} {s : ByteArray} {k : Nat} {out : List UInt8} {lim : Nat} {v : Value}
set_option maxRecDepth 100000 in
set_option maxHeartbeats 4000000 in
theorem rsymbols_any (hs : s.size ≤ 281474976710656) (hl : lim ≤ 1073741824) (last : Bool) (lt dt : List Int) (cl cd : Value) (hlc : CodeR w cl lt) (hdc : CodeR w cd dt) (h : Ref B w fb g s k out lim v) :
    Calls Tryz.prog 69 #[.pointer (some ⟨fb, 0, none⟩), cl, cd] w (RanR B fb g s lim last (.go ⟨.sym last lt dt, k, out⟩) w) := by
  obtain ⟨i0, hinf, hz0, hz1, hz2⟩ := info_parts byteInfo
  have HI := hid h
  have HCL := hid hlc
  have HCD := hid hdc
  have HLC := hid hlc.code
  obtain ⟨cb, coff, clen, ccap, crb, rfl, hcl, hci, hch⟩ := hlc.ex
  obtain ⟨eb, eoff, elen, ecap, erb, rfl, hel, hei, heh⟩ := hdc.ex
  have HLL := hid hcl
  have HLI := hid hci
  have HLH := hid hch
  have HW1 := hid (show Bw w (w.alloc (.cells #[.slice (some ⟨cb, coff, none⟩) clen ccap, .slice (some ⟨crb, 0, none⟩) clen clen] 129)) from (Bw.refl w).alloc _)
  have HN1 := hid (Has.new w 129 #[.slice (some ⟨cb, coff, none⟩) clen ccap, .slice (some ⟨crb, 0, none⟩) clen clen])
  clear h hlc hdc hcl hci hch hel hei heh
  go_enter Tryz.func69, Tryz.ntmps69
  go_wp2_with fail
  have HN2 := hid (Has.new (w.alloc (.cells #[.slice (some ⟨cb, coff, none⟩) clen ccap, .slice (some ⟨crb, 0, none⟩) clen clen] 129)) 129 #[.slice (some ⟨eb, eoff, none⟩) elen ecap, .slice (some ⟨erb, 0, none⟩) elen elen])
  have HW2 := hid (show Bw _ ((w.alloc (.cells #[.slice (some ⟨cb, coff, none⟩) clen ccap, .slice (some ⟨crb, 0, none⟩) clen clen] 129)).alloc (.cells #[.slice (some ⟨eb, eoff, none⟩) elen ecap, .slice (some ⟨erb, 0, none⟩) elen elen] 129)) from (Bw.refl _).alloc _)
  have HN1 := hid (HW2.out.has HN1.out)
  have HI0 := hid ((HI.out.bw HW1.out).bw HW2.out)
  have HK0 := hid ((KT.of_bw HW1.out : KT TJ B w _).trans (KT.of_bw HW2.out))
  rw [World.size_alloc] at HN2
  generalize (w.alloc (.cells #[.slice (some ⟨cb, coff, none⟩) clen ccap, .slice (some ⟨crb, 0, none⟩) clen clen] 129)).alloc (.cells #[.slice (some ⟨eb, eoff, none⟩) elen ecap, .slice (some ⟨erb, 0, none⟩) elen elen] 129) = W at *
  generalize w.heap.size = lb at *
  clear HW1 HW2
  go_loopw [7, 8, 9] (fun a b c wr => SymIR B w fb g lb (lb + 1) s k out lim last lt dt (.slice (some ⟨cb, coff, none⟩) clen ccap) (.slice (some ⟨crb, 0, none⟩) clen clen) (.slice (some ⟨eb, eoff, none⟩) elen ecap) (.slice (some ⟨erb, 0, none⟩) elen elen) wr) (fun _ _ _ wr => 8 * s.size - posX wr g)
  case atStart => exact ⟨k, out, v, HI0.out, HK0.out, HN1.out, HN2.out, Leads.refl _⟩
  case round =>
    rename World => wr
    obtain ⟨k1, out1, v1, hi1, hk1, hn1, hn2, hL⟩ := hrel
    have HI1 := hid hi1
    have HK1 := hid hk1
    have HNA := hid hn1
    have HNB := hid hn2
    have HL := hid hL
    have HP1 := hid (posX_rx hi1.rd)
    have HX := hid (sym_eq s lim last lt dt k1 out1)
    have b0 : wr.cell? ⟨lb, 0, none⟩ = some (.slice (some ⟨cb, coff, none⟩) clen ccap) := hn1.cell 0
    have b1 : wr.cell? ⟨lb, 1, none⟩ = some (.slice (some ⟨crb, 0, none⟩) clen clen) := hn1.cell 1
    have b2 : wr.cell? ⟨fb, 0, none⟩ = some (.pointer (some ⟨g, 0, none⟩)) := hi1.has.cell 0
    have HD := hid (show Bw wr wr.drew from (Bw.refl wr).drewN 1)
    have HIE := hid (HI1.out.bw HD.out)
    have HSY := hid (rsym_any hs cb coff clen ccap crb lt HLC.out HLL.out ((HLI.out.kt HK1.out (by decide)).bw HD.out) (HD.out.has (HK1.out.has HLH.out (by decide))) HIE.out)
    have HNA3 := hid (HD.out.has HNA.out)
    have HNB3 := hid (HD.out.has HNB.out)
    have HK3 := hid (HK1.out.trans (KT.of_bw HD.out))
    clear hi1 hk1 hn1 hn2 hL
    go_wp2_with fail
    go_region_held3 (fun W => W.cell? ⟨lb, 0, none⟩ = some (.slice (some ⟨cb, coff, none⟩) clen ccap) ∧ W.cell? ⟨lb, 1, none⟩ = some (.slice (some ⟨crb, 0, none⟩) clen clen) ∧ W.cell? ⟨fb, 0, none⟩ = some (.pointer (some ⟨g, 0, none⟩)))
      (first | exact ⟨b0, b1, b2⟩ | exact ⟨s0, s1, s2⟩ | exact ⟨by assumption, by assumption, by assumption⟩)
      (first | (go_at_call 101; refine HSY.out.mono ?_; rintro e w2 ⟨rfl, hi2, hk2⟩; have HI2 := hid hi2; have HK2 := hid (HK3.out.trans hk2); have hn4 := hk2.has HNA3.out (by decide); have HNA2 := hid hn4; have HNB2 := hid (hk2.has HNB3.out (by decide)); have s0 := hn4.cell 0; have s1 := hn4.cell 1; have s2 := hi2.has.cell 0; clear hi2 hk2 hn4))
    clear b0 b1 b2
    by_cases h1 : nextE lt s k1 = 0
    · have HX := hid (HX.out.trans (sym1_ok h1))
      have hmore := next_more h1 HI1.out.k8
      have hx9 := nextV_lt h1
      have hfew := HLC.out.few
      rw [h1]
      clear h1
      generalize nextV lt s k1 = x at *
      generalize nextK lt s k1 = k2 at *
      by_cases h2 : x = 256
      · have HX := hid (HX.out.trans (if_pos h2))
        subst h2
        go_wp2
        go_returns
        exact RanR.ok (HL.out.then HX.out) HK2.out HI2.out
      · have HX := hid (HX.out.trans (if_neg h2))
        have t0 : ((x : Int) == 256) = false := by simp; omega
        by_cases h3 : x < 256
        · have HX := hid (HX.out.trans (if_pos h3))
          have t1 : decide ((x : Int) < 256) = true := decide_eq_true (by omega)
          have t2 : decide (x < 256) = true := decide_eq_true (by omega)
          have hx256 : (x : Int) < 256 := by omega
          have HD2 := hid (show ∀ W : World, Bw W W.drew from fun W => (Bw.refl W).drewN 1)
          obtain ⟨ol, hol⟩ : ∃ ol, out1.length = ol := ⟨_, rfl⟩
          have HI3 := hid (HI2.out.bw (HD2.out _))
          have HK3 := hid (HK2.out.trans (KT.of_bw (HD2.out _)))
          have HNA4 := hid ((HD2.out _).has HNA2.out)
          have HNB4 := hid ((HD2.out _).has HNB2.out)
          have hown := HI3.out.own
          have hhas := HI3.out.has
          rw [hol] at hown HX
          obtain ⟨vo, vc, rfl⟩ := own_slice hown
          have c1 := hhas.cell 1
          have c2 := hhas.cell 2
          have hfw := HI3.out.few
          rw [hol] at hfw
          have HOW := hid hown
          have HOL := hid hol
          clear hown hol hhas
          by_cases h4 : lim < ol + 1
          · have HX := hid (HX.out.trans (if_pos h4))
            have t3 : decide ((lim : Int) ≤ ol) = true := decide_eq_true (by omega)
            have t4 : decide (lim ≤ ol) = true := decide_eq_true (by omega)
            go_wp2_with fail
            go_region
            all_goals go_wp2
            all_goals go_returns
            all_goals exact RanR.bad (HL.out.then HX.out) (by decide) HK3.out
          · have HX := hid (HX.out.trans (if_neg h4))
            have t3 : decide ((lim : Int) ≤ ol) = false := decide_eq_false (by omega)
            have t4 : decide (lim ≤ ol) = false := decide_eq_false (by omega)
            go_wp2_with fail
            have HI3 : Hid (Ref B w2.drew fb g s k2 out1 lim (.slice vo ol vc)) := HI3
            have HK3 : Hid (KT TJ B w w2.drew) := HK3
            have HNA4 : Hid (Has w2.drew lb _ _) := HNA4
            have HNB4 : Hid (Has w2.drew (lb + 1) _ _) := HNB4
            have c1 : w2.drew.cell? ⟨fb, 1, none⟩ = some (.slice vo ol vc) := c1
            have HOW : Hid (w2.drew.ownsRow B 5 1 (.slice vo ol vc) ol (bcs out1)) := HOW
            go_region
            clear c2
            generalize w2.drew = w3 at *
            have hBz : B ≤ w3.heap.size := by have h1 := HI3.out.gb; have h2 := Has.lt HI3.out.rd; omega
            have HU := hid (show ((UInt8.ofNat x).toNat : Nat) = x by simp [Nat.mod_eq_of_lt h3])
            have HWA := hid (show Bw w3 (w3.alloc (.cells #[.int .u8 x] 5)) from (Bw.refl w3).alloc _)
            have d1 := HWA.out.cell c1
            have HWF := hid (show ∀ w5, (w3.alloc (.cells #[.int .u8 x] 5)).grownBy w5 (Value.slice vo ol vc).ownBlock → w5.frozen? ⟨fb, 1, none⟩ = false from fun w5 hg => (((HI3.out.bw HWA.out).grown hg).1).frozen 1)
            have HWC := hid (show ∀ w5, (w3.alloc (.cells #[.int .u8 x] 5)).grownBy w5 (Value.slice vo ol vc).ownBlock → w5.cell? ⟨fb, 1, none⟩ = some (.slice vo ol vc) from fun w5 hg => (((HI3.out.bw HWA.out).grown hg).1).cell 1)
            have hol9 : ol ≤ 1073741824 := by omega
            clear h2 t0 t1 t2 t3 t4
            go_wp2_with (at_builtin; refine wpList_append_own_at _ rfl (.tmp 43) (.tmp 46) 41 rfl B 5 i0 (.int .u8 0) 1 1 Tryz.underlying41 hinf hz0 hz1 hz2 rfl (by decide) (.slice vo ol vc) ol (bcs out1) rfl (HWA.out.own HOW.out) ⟨w3.heap.size, 0, none⟩ 1 1 [.int .u8 x] rfl rfl (cell_one_new _ _ _) (by intro u hu; simp at hu; rw [hu]; rfl) (by unfold maxLen; omega) (by omega) (by simp only [World.size_alloc]; omega) ?_; intro v' w5 hown5 hgrow5 _ _; obtain ⟨vo5, vc5, rfl⟩ := own_slice hown5; have HG5 := hid hgrow5; have HO5 := hid hown5; have z5 := HWF.out _ hgrow5; have y5 := HWC.out _ hgrow5; clear hown5 hgrow5)
            have hl1 : (out1 ++ [UInt8.ofNat x]).length = ol + 1 := by rw [List.length_append, HOL.out]; rfl
            have hap := (HI3.out.bw HWA.out).app HG5.out (out' := out1 ++ [UInt8.ofNat x]) (v' := .slice vo5 (ol + 1) vc5) (by rw [hl1, bcs_snoc, HU.out]; exact HO5.out) (by rw [hl1]; omega)
            have hkk : KT TJ B w3 _ := (KT.of_bw HWA.out).trans hap.2
            refine ⟨⟨_, _, _, hap.1, HK3.out.trans hkk, hkk.has HNA4.out (by decide), hkk.has HNB4.out (by decide), HL.out.then HX.out⟩, ?_⟩
            rw [HP1.out, posX_rx hap.1.rd]; have := hmore; omega
        · have HX := hid (HX.out.trans (if_neg h3))
          have t1 : decide ((x : Int) < 256) = false := decide_eq_false (by omega)
          have t2 : decide (x < 256) = false := decide_eq_false (by omega)
          have b1 : w2.cell? ⟨lb + 1, 0, none⟩ = some (.slice (some ⟨eb, eoff, none⟩) elen ecap) := HNB2.out.cell 0
          have b2 : w2.cell? ⟨lb + 1, 1, none⟩ = some (.slice (some ⟨erb, 0, none⟩) elen elen) := HNB2.out.cell 1
          go_wp2_with fail
          refine (rmatch_any hs hl last lt dt x (by omega) (by omega) _ (HCD.out.kt HK2.out (by decide)) HI2.out).mono ?_
          rintro e w3 ⟨hk3, hm⟩
          have HK3 := hid (HK2.out.trans hk3)
          have HNA3 := hid (hk3.has HNA2.out (by decide))
          have HNB3 := hid (hk3.has HNB2.out (by decide))
          clear hk3 b1 b2 t1 t2 t0
          rcases match_go (s := s) (lim := lim) (last := last) (lt := lt) (dt := dt) (x := x) (k := k2) (out := out1) with ⟨er, he⟩ | ⟨k3, o3, he, hk3⟩
          · have her := match_ne HI2.out.k8 he
            rw [he] at hm
            have hm : e = .returned (.int .i64 er) := hm
            subst hm
            have HE := hid he
            have t5 : (er != 0) = true := by simp [her]
            clear he
            go_wp2
            go_returns
            exact RanR.bad (HL.out.then (HX.out.trans HE.out)) her HK3.out
          · rw [he] at hm
            obtain ⟨rfl, v3, hi3⟩ := hm
            have hi3 : Ref B w3 fb g s k3 o3 lim v3 := hi3
            have HI3 := hid hi3
            have HE := hid he
            have HKK := hid hk3
            clear hi3 he hk3
            go_wp2
            refine ⟨⟨_, _, _, HI3.out, HK3.out, HNA3.out, HNB3.out, HL.out.then (HX.out.trans HE.out)⟩, ?_⟩
            rw [HP1.out, posX_rx HI3.out.rd]; have := hmore; have h5 := HKK.out HI2.out.k8; have := HI3.out.k8; omega
    · have HX := hid (HX.out.trans (sym1_bad h1))
      have t9 : ((nextE lt s k1) != 0) = true := by simp [h1]
      go_wp2
      go_returns
      exact RanR.bad (HL.out.then HX.out) h1 HK2.out
end
end Go.Proofs.YtkmbgkcpohchhaaGreatDoor
