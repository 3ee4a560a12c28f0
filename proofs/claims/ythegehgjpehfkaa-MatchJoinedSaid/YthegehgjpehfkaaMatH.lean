/- The document's Length and Distance, symbol by symbol (contracts of the functions). -/
import Derived.Test.YthegehgjpehfkaaMatK
import Derived.Laws.BitsAllLaws
import Derived.Laws.ShiftsVarLaws
namespace Go.Proofs.Ythegehgjpehfkaa
open Go.RowKit
set_option linter.unusedVariables false
set_option maxRecDepth 100000 in
theorem rlen_257 (w : World) : Calls Try.prog 25 #[.int .i64 257] w fun e w' => e = .returned (.tuple #[.int .i64 3, .int .i64 0]) ∧ w' = w := by
  go_enter Try.func25, Try.ntmps25
  go_wp2
  go_returns
  exact ⟨rfl, rfl⟩
set_option maxRecDepth 100000 in
theorem rlen_258 (w : World) : Calls Try.prog 25 #[.int .i64 258] w fun e w' => e = .returned (.tuple #[.int .i64 4, .int .i64 0]) ∧ w' = w := by
  go_enter Try.func25, Try.ntmps25
  go_wp2
  go_returns
  exact ⟨rfl, rfl⟩
set_option maxRecDepth 100000 in
theorem rlen_259 (w : World) : Calls Try.prog 25 #[.int .i64 259] w fun e w' => e = .returned (.tuple #[.int .i64 5, .int .i64 0]) ∧ w' = w := by
  go_enter Try.func25, Try.ntmps25
  go_wp2
  go_returns
  exact ⟨rfl, rfl⟩
set_option maxRecDepth 100000 in
theorem rlen_260 (w : World) : Calls Try.prog 25 #[.int .i64 260] w fun e w' => e = .returned (.tuple #[.int .i64 6, .int .i64 0]) ∧ w' = w := by
  go_enter Try.func25, Try.ntmps25
  go_wp2
  go_returns
  exact ⟨rfl, rfl⟩
set_option maxRecDepth 100000 in
theorem rlen_261 (w : World) : Calls Try.prog 25 #[.int .i64 261] w fun e w' => e = .returned (.tuple #[.int .i64 7, .int .i64 0]) ∧ w' = w := by
  go_enter Try.func25, Try.ntmps25
  go_wp2
  go_returns
  exact ⟨rfl, rfl⟩
set_option maxRecDepth 100000 in
theorem rlen_262 (w : World) : Calls Try.prog 25 #[.int .i64 262] w fun e w' => e = .returned (.tuple #[.int .i64 8, .int .i64 0]) ∧ w' = w := by
  go_enter Try.func25, Try.ntmps25
  go_wp2
  go_returns
  exact ⟨rfl, rfl⟩
set_option maxRecDepth 100000 in
theorem rlen_263 (w : World) : Calls Try.prog 25 #[.int .i64 263] w fun e w' => e = .returned (.tuple #[.int .i64 9, .int .i64 0]) ∧ w' = w := by
  go_enter Try.func25, Try.ntmps25
  go_wp2
  go_returns
  exact ⟨rfl, rfl⟩
set_option maxRecDepth 100000 in
theorem rlen_264 (w : World) : Calls Try.prog 25 #[.int .i64 264] w fun e w' => e = .returned (.tuple #[.int .i64 10, .int .i64 0]) ∧ w' = w := by
  go_enter Try.func25, Try.ntmps25
  go_wp2
  go_returns
  exact ⟨rfl, rfl⟩
set_option maxRecDepth 100000 in
theorem rlen_265 (w : World) : Calls Try.prog 25 #[.int .i64 265] w fun e w' => e = .returned (.tuple #[.int .i64 11, .int .i64 1]) ∧ w' = w := by
  go_enter Try.func25, Try.ntmps25
  go_wp2
  go_returns
  exact ⟨rfl, rfl⟩
set_option maxRecDepth 100000 in
theorem rlen_266 (w : World) : Calls Try.prog 25 #[.int .i64 266] w fun e w' => e = .returned (.tuple #[.int .i64 13, .int .i64 1]) ∧ w' = w := by
  go_enter Try.func25, Try.ntmps25
  go_wp2
  go_returns
  exact ⟨rfl, rfl⟩
set_option maxRecDepth 100000 in
theorem rlen_267 (w : World) : Calls Try.prog 25 #[.int .i64 267] w fun e w' => e = .returned (.tuple #[.int .i64 15, .int .i64 1]) ∧ w' = w := by
  go_enter Try.func25, Try.ntmps25
  go_wp2
  go_returns
  exact ⟨rfl, rfl⟩
set_option maxRecDepth 100000 in
theorem rlen_268 (w : World) : Calls Try.prog 25 #[.int .i64 268] w fun e w' => e = .returned (.tuple #[.int .i64 17, .int .i64 1]) ∧ w' = w := by
  go_enter Try.func25, Try.ntmps25
  go_wp2
  go_returns
  exact ⟨rfl, rfl⟩
set_option maxRecDepth 100000 in
theorem rlen_269 (w : World) : Calls Try.prog 25 #[.int .i64 269] w fun e w' => e = .returned (.tuple #[.int .i64 19, .int .i64 2]) ∧ w' = w := by
  go_enter Try.func25, Try.ntmps25
  go_wp2
  go_returns
  exact ⟨rfl, rfl⟩
set_option maxRecDepth 100000 in
theorem rlen_270 (w : World) : Calls Try.prog 25 #[.int .i64 270] w fun e w' => e = .returned (.tuple #[.int .i64 23, .int .i64 2]) ∧ w' = w := by
  go_enter Try.func25, Try.ntmps25
  go_wp2
  go_returns
  exact ⟨rfl, rfl⟩
set_option maxRecDepth 100000 in
theorem rlen_271 (w : World) : Calls Try.prog 25 #[.int .i64 271] w fun e w' => e = .returned (.tuple #[.int .i64 27, .int .i64 2]) ∧ w' = w := by
  go_enter Try.func25, Try.ntmps25
  go_wp2
  go_returns
  exact ⟨rfl, rfl⟩
set_option maxRecDepth 100000 in
theorem rlen_272 (w : World) : Calls Try.prog 25 #[.int .i64 272] w fun e w' => e = .returned (.tuple #[.int .i64 31, .int .i64 2]) ∧ w' = w := by
  go_enter Try.func25, Try.ntmps25
  go_wp2
  go_returns
  exact ⟨rfl, rfl⟩
set_option maxRecDepth 100000 in
theorem rlen_273 (w : World) : Calls Try.prog 25 #[.int .i64 273] w fun e w' => e = .returned (.tuple #[.int .i64 35, .int .i64 3]) ∧ w' = w := by
  go_enter Try.func25, Try.ntmps25
  go_wp2
  go_returns
  exact ⟨rfl, rfl⟩
set_option maxRecDepth 100000 in
theorem rlen_274 (w : World) : Calls Try.prog 25 #[.int .i64 274] w fun e w' => e = .returned (.tuple #[.int .i64 43, .int .i64 3]) ∧ w' = w := by
  go_enter Try.func25, Try.ntmps25
  go_wp2
  go_returns
  exact ⟨rfl, rfl⟩
set_option maxRecDepth 100000 in
theorem rlen_275 (w : World) : Calls Try.prog 25 #[.int .i64 275] w fun e w' => e = .returned (.tuple #[.int .i64 51, .int .i64 3]) ∧ w' = w := by
  go_enter Try.func25, Try.ntmps25
  go_wp2
  go_returns
  exact ⟨rfl, rfl⟩
set_option maxRecDepth 100000 in
theorem rlen_276 (w : World) : Calls Try.prog 25 #[.int .i64 276] w fun e w' => e = .returned (.tuple #[.int .i64 59, .int .i64 3]) ∧ w' = w := by
  go_enter Try.func25, Try.ntmps25
  go_wp2
  go_returns
  exact ⟨rfl, rfl⟩
set_option maxRecDepth 100000 in
theorem rlen_277 (w : World) : Calls Try.prog 25 #[.int .i64 277] w fun e w' => e = .returned (.tuple #[.int .i64 67, .int .i64 4]) ∧ w' = w := by
  go_enter Try.func25, Try.ntmps25
  go_wp2
  go_returns
  exact ⟨rfl, rfl⟩
set_option maxRecDepth 100000 in
theorem rlen_278 (w : World) : Calls Try.prog 25 #[.int .i64 278] w fun e w' => e = .returned (.tuple #[.int .i64 83, .int .i64 4]) ∧ w' = w := by
  go_enter Try.func25, Try.ntmps25
  go_wp2
  go_returns
  exact ⟨rfl, rfl⟩
set_option maxRecDepth 100000 in
theorem rlen_279 (w : World) : Calls Try.prog 25 #[.int .i64 279] w fun e w' => e = .returned (.tuple #[.int .i64 99, .int .i64 4]) ∧ w' = w := by
  go_enter Try.func25, Try.ntmps25
  go_wp2
  go_returns
  exact ⟨rfl, rfl⟩
set_option maxRecDepth 100000 in
theorem rlen_280 (w : World) : Calls Try.prog 25 #[.int .i64 280] w fun e w' => e = .returned (.tuple #[.int .i64 115, .int .i64 4]) ∧ w' = w := by
  go_enter Try.func25, Try.ntmps25
  go_wp2
  go_returns
  exact ⟨rfl, rfl⟩
set_option maxRecDepth 100000 in
theorem rlen_281 (w : World) : Calls Try.prog 25 #[.int .i64 281] w fun e w' => e = .returned (.tuple #[.int .i64 131, .int .i64 5]) ∧ w' = w := by
  go_enter Try.func25, Try.ntmps25
  go_wp2
  go_returns
  exact ⟨rfl, rfl⟩
set_option maxRecDepth 100000 in
theorem rlen_282 (w : World) : Calls Try.prog 25 #[.int .i64 282] w fun e w' => e = .returned (.tuple #[.int .i64 163, .int .i64 5]) ∧ w' = w := by
  go_enter Try.func25, Try.ntmps25
  go_wp2
  go_returns
  exact ⟨rfl, rfl⟩
set_option maxRecDepth 100000 in
theorem rlen_283 (w : World) : Calls Try.prog 25 #[.int .i64 283] w fun e w' => e = .returned (.tuple #[.int .i64 195, .int .i64 5]) ∧ w' = w := by
  go_enter Try.func25, Try.ntmps25
  go_wp2
  go_returns
  exact ⟨rfl, rfl⟩
set_option maxRecDepth 100000 in
theorem rlen_284 (w : World) : Calls Try.prog 25 #[.int .i64 284] w fun e w' => e = .returned (.tuple #[.int .i64 227, .int .i64 5]) ∧ w' = w := by
  go_enter Try.func25, Try.ntmps25
  go_wp2
  go_returns
  exact ⟨rfl, rfl⟩
set_option maxRecDepth 100000 in
theorem rlen_285 (w : World) : Calls Try.prog 25 #[.int .i64 285] w fun e w' => e = .returned (.tuple #[.int .i64 258, .int .i64 0]) ∧ w' = w := by
  go_enter Try.func25, Try.ntmps25
  go_wp2
  go_returns
  exact ⟨rfl, rfl⟩
set_option maxRecDepth 100000 in
theorem rdst_0 (w : World) : Calls Try.prog 26 #[.int .i64 0] w fun e w' => e = .returned (.tuple #[.int .i64 1, .int .i64 0]) ∧ w' = w := by
  go_enter Try.func26, Try.ntmps26
  go_wp2
  go_returns
  exact ⟨rfl, rfl⟩
set_option maxRecDepth 100000 in
theorem rdst_1 (w : World) : Calls Try.prog 26 #[.int .i64 1] w fun e w' => e = .returned (.tuple #[.int .i64 2, .int .i64 0]) ∧ w' = w := by
  go_enter Try.func26, Try.ntmps26
  go_wp2
  go_returns
  exact ⟨rfl, rfl⟩
set_option maxRecDepth 100000 in
theorem rdst_2 (w : World) : Calls Try.prog 26 #[.int .i64 2] w fun e w' => e = .returned (.tuple #[.int .i64 3, .int .i64 0]) ∧ w' = w := by
  go_enter Try.func26, Try.ntmps26
  go_wp2
  go_returns
  exact ⟨rfl, rfl⟩
set_option maxRecDepth 100000 in
theorem rdst_3 (w : World) : Calls Try.prog 26 #[.int .i64 3] w fun e w' => e = .returned (.tuple #[.int .i64 4, .int .i64 0]) ∧ w' = w := by
  go_enter Try.func26, Try.ntmps26
  go_wp2
  go_returns
  exact ⟨rfl, rfl⟩
set_option maxRecDepth 100000 in
theorem rdst_4 (w : World) : Calls Try.prog 26 #[.int .i64 4] w fun e w' => e = .returned (.tuple #[.int .i64 5, .int .i64 1]) ∧ w' = w := by
  go_enter Try.func26, Try.ntmps26
  go_wp2
  go_returns
  exact ⟨rfl, rfl⟩
set_option maxRecDepth 100000 in
theorem rdst_5 (w : World) : Calls Try.prog 26 #[.int .i64 5] w fun e w' => e = .returned (.tuple #[.int .i64 7, .int .i64 1]) ∧ w' = w := by
  go_enter Try.func26, Try.ntmps26
  go_wp2
  go_returns
  exact ⟨rfl, rfl⟩
set_option maxRecDepth 100000 in
theorem rdst_6 (w : World) : Calls Try.prog 26 #[.int .i64 6] w fun e w' => e = .returned (.tuple #[.int .i64 9, .int .i64 2]) ∧ w' = w := by
  go_enter Try.func26, Try.ntmps26
  go_wp2
  go_returns
  exact ⟨rfl, rfl⟩
set_option maxRecDepth 100000 in
theorem rdst_7 (w : World) : Calls Try.prog 26 #[.int .i64 7] w fun e w' => e = .returned (.tuple #[.int .i64 13, .int .i64 2]) ∧ w' = w := by
  go_enter Try.func26, Try.ntmps26
  go_wp2
  go_returns
  exact ⟨rfl, rfl⟩
set_option maxRecDepth 100000 in
theorem rdst_8 (w : World) : Calls Try.prog 26 #[.int .i64 8] w fun e w' => e = .returned (.tuple #[.int .i64 17, .int .i64 3]) ∧ w' = w := by
  go_enter Try.func26, Try.ntmps26
  go_wp2
  go_returns
  exact ⟨rfl, rfl⟩
set_option maxRecDepth 100000 in
theorem rdst_9 (w : World) : Calls Try.prog 26 #[.int .i64 9] w fun e w' => e = .returned (.tuple #[.int .i64 25, .int .i64 3]) ∧ w' = w := by
  go_enter Try.func26, Try.ntmps26
  go_wp2
  go_returns
  exact ⟨rfl, rfl⟩
set_option maxRecDepth 100000 in
theorem rdst_10 (w : World) : Calls Try.prog 26 #[.int .i64 10] w fun e w' => e = .returned (.tuple #[.int .i64 33, .int .i64 4]) ∧ w' = w := by
  go_enter Try.func26, Try.ntmps26
  go_wp2
  go_returns
  exact ⟨rfl, rfl⟩
set_option maxRecDepth 100000 in
theorem rdst_11 (w : World) : Calls Try.prog 26 #[.int .i64 11] w fun e w' => e = .returned (.tuple #[.int .i64 49, .int .i64 4]) ∧ w' = w := by
  go_enter Try.func26, Try.ntmps26
  go_wp2
  go_returns
  exact ⟨rfl, rfl⟩
set_option maxRecDepth 100000 in
theorem rdst_12 (w : World) : Calls Try.prog 26 #[.int .i64 12] w fun e w' => e = .returned (.tuple #[.int .i64 65, .int .i64 5]) ∧ w' = w := by
  go_enter Try.func26, Try.ntmps26
  go_wp2
  go_returns
  exact ⟨rfl, rfl⟩
set_option maxRecDepth 100000 in
theorem rdst_13 (w : World) : Calls Try.prog 26 #[.int .i64 13] w fun e w' => e = .returned (.tuple #[.int .i64 97, .int .i64 5]) ∧ w' = w := by
  go_enter Try.func26, Try.ntmps26
  go_wp2
  go_returns
  exact ⟨rfl, rfl⟩
set_option maxRecDepth 100000 in
theorem rdst_14 (w : World) : Calls Try.prog 26 #[.int .i64 14] w fun e w' => e = .returned (.tuple #[.int .i64 129, .int .i64 6]) ∧ w' = w := by
  go_enter Try.func26, Try.ntmps26
  go_wp2
  go_returns
  exact ⟨rfl, rfl⟩
set_option maxRecDepth 100000 in
theorem rdst_15 (w : World) : Calls Try.prog 26 #[.int .i64 15] w fun e w' => e = .returned (.tuple #[.int .i64 193, .int .i64 6]) ∧ w' = w := by
  go_enter Try.func26, Try.ntmps26
  go_wp2
  go_returns
  exact ⟨rfl, rfl⟩
set_option maxRecDepth 100000 in
theorem rdst_16 (w : World) : Calls Try.prog 26 #[.int .i64 16] w fun e w' => e = .returned (.tuple #[.int .i64 257, .int .i64 7]) ∧ w' = w := by
  go_enter Try.func26, Try.ntmps26
  go_wp2
  go_returns
  exact ⟨rfl, rfl⟩
set_option maxRecDepth 100000 in
theorem rdst_17 (w : World) : Calls Try.prog 26 #[.int .i64 17] w fun e w' => e = .returned (.tuple #[.int .i64 385, .int .i64 7]) ∧ w' = w := by
  go_enter Try.func26, Try.ntmps26
  go_wp2
  go_returns
  exact ⟨rfl, rfl⟩
set_option maxRecDepth 100000 in
theorem rdst_18 (w : World) : Calls Try.prog 26 #[.int .i64 18] w fun e w' => e = .returned (.tuple #[.int .i64 513, .int .i64 8]) ∧ w' = w := by
  go_enter Try.func26, Try.ntmps26
  go_wp2
  go_returns
  exact ⟨rfl, rfl⟩
set_option maxRecDepth 100000 in
theorem rdst_19 (w : World) : Calls Try.prog 26 #[.int .i64 19] w fun e w' => e = .returned (.tuple #[.int .i64 769, .int .i64 8]) ∧ w' = w := by
  go_enter Try.func26, Try.ntmps26
  go_wp2
  go_returns
  exact ⟨rfl, rfl⟩
set_option maxRecDepth 100000 in
theorem rdst_20 (w : World) : Calls Try.prog 26 #[.int .i64 20] w fun e w' => e = .returned (.tuple #[.int .i64 1025, .int .i64 9]) ∧ w' = w := by
  go_enter Try.func26, Try.ntmps26
  go_wp2
  go_returns
  exact ⟨rfl, rfl⟩
set_option maxRecDepth 100000 in
theorem rdst_21 (w : World) : Calls Try.prog 26 #[.int .i64 21] w fun e w' => e = .returned (.tuple #[.int .i64 1537, .int .i64 9]) ∧ w' = w := by
  go_enter Try.func26, Try.ntmps26
  go_wp2
  go_returns
  exact ⟨rfl, rfl⟩
set_option maxRecDepth 100000 in
theorem rdst_22 (w : World) : Calls Try.prog 26 #[.int .i64 22] w fun e w' => e = .returned (.tuple #[.int .i64 2049, .int .i64 10]) ∧ w' = w := by
  go_enter Try.func26, Try.ntmps26
  go_wp2
  go_returns
  exact ⟨rfl, rfl⟩
set_option maxRecDepth 100000 in
theorem rdst_23 (w : World) : Calls Try.prog 26 #[.int .i64 23] w fun e w' => e = .returned (.tuple #[.int .i64 3073, .int .i64 10]) ∧ w' = w := by
  go_enter Try.func26, Try.ntmps26
  go_wp2
  go_returns
  exact ⟨rfl, rfl⟩
set_option maxRecDepth 100000 in
theorem rdst_24 (w : World) : Calls Try.prog 26 #[.int .i64 24] w fun e w' => e = .returned (.tuple #[.int .i64 4097, .int .i64 11]) ∧ w' = w := by
  go_enter Try.func26, Try.ntmps26
  go_wp2
  go_returns
  exact ⟨rfl, rfl⟩
set_option maxRecDepth 100000 in
theorem rdst_25 (w : World) : Calls Try.prog 26 #[.int .i64 25] w fun e w' => e = .returned (.tuple #[.int .i64 6145, .int .i64 11]) ∧ w' = w := by
  go_enter Try.func26, Try.ntmps26
  go_wp2
  go_returns
  exact ⟨rfl, rfl⟩
set_option maxRecDepth 100000 in
theorem rdst_26 (w : World) : Calls Try.prog 26 #[.int .i64 26] w fun e w' => e = .returned (.tuple #[.int .i64 8193, .int .i64 12]) ∧ w' = w := by
  go_enter Try.func26, Try.ntmps26
  go_wp2
  go_returns
  exact ⟨rfl, rfl⟩
set_option maxRecDepth 100000 in
theorem rdst_27 (w : World) : Calls Try.prog 26 #[.int .i64 27] w fun e w' => e = .returned (.tuple #[.int .i64 12289, .int .i64 12]) ∧ w' = w := by
  go_enter Try.func26, Try.ntmps26
  go_wp2
  go_returns
  exact ⟨rfl, rfl⟩
set_option maxRecDepth 100000 in
theorem rdst_28 (w : World) : Calls Try.prog 26 #[.int .i64 28] w fun e w' => e = .returned (.tuple #[.int .i64 16385, .int .i64 13]) ∧ w' = w := by
  go_enter Try.func26, Try.ntmps26
  go_wp2
  go_returns
  exact ⟨rfl, rfl⟩
set_option maxRecDepth 100000 in
theorem rdst_29 (w : World) : Calls Try.prog 26 #[.int .i64 29] w fun e w' => e = .returned (.tuple #[.int .i64 24577, .int .i64 13]) ∧ w' = w := by
  go_enter Try.func26, Try.ntmps26
  go_wp2
  go_returns
  exact ⟨rfl, rfl⟩
theorem rlen_any (s : Nat) (h0 : 257 ≤ s) (h1 : s ≤ 285) (w : World) : Calls Try.prog 25 #[.int .i64 s] w fun e w' => e = .returned (.tuple #[.int .i64 (lenF s), .int .i64 (lenX s)]) ∧ w' = w := by
  have h : s = 257 ∨ s = 258 ∨ s = 259 ∨ s = 260 ∨ s = 261 ∨ s = 262 ∨ s = 263 ∨ s = 264 ∨ s = 265 ∨ s = 266 ∨ s = 267 ∨ s = 268 ∨ s = 269 ∨ s = 270 ∨ s = 271 ∨ s = 272 ∨ s = 273 ∨ s = 274 ∨ s = 275 ∨ s = 276 ∨ s = 277 ∨ s = 278 ∨ s = 279 ∨ s = 280 ∨ s = 281 ∨ s = 282 ∨ s = 283 ∨ s = 284 ∨ s = 285 := by omega
  rcases h with rfl | rfl | rfl | rfl | rfl | rfl | rfl | rfl | rfl | rfl | rfl | rfl | rfl | rfl | rfl | rfl | rfl | rfl | rfl | rfl | rfl | rfl | rfl | rfl | rfl | rfl | rfl | rfl | rfl
  · exact rlen_257 w
  · exact rlen_258 w
  · exact rlen_259 w
  · exact rlen_260 w
  · exact rlen_261 w
  · exact rlen_262 w
  · exact rlen_263 w
  · exact rlen_264 w
  · exact rlen_265 w
  · exact rlen_266 w
  · exact rlen_267 w
  · exact rlen_268 w
  · exact rlen_269 w
  · exact rlen_270 w
  · exact rlen_271 w
  · exact rlen_272 w
  · exact rlen_273 w
  · exact rlen_274 w
  · exact rlen_275 w
  · exact rlen_276 w
  · exact rlen_277 w
  · exact rlen_278 w
  · exact rlen_279 w
  · exact rlen_280 w
  · exact rlen_281 w
  · exact rlen_282 w
  · exact rlen_283 w
  · exact rlen_284 w
  · exact rlen_285 w
theorem rdst_any (s : Nat) (h0 : 0 ≤ s) (h1 : s ≤ 29) (w : World) : Calls Try.prog 26 #[.int .i64 s] w fun e w' => e = .returned (.tuple #[.int .i64 (dstF s), .int .i64 (dstX s)]) ∧ w' = w := by
  have h : s = 0 ∨ s = 1 ∨ s = 2 ∨ s = 3 ∨ s = 4 ∨ s = 5 ∨ s = 6 ∨ s = 7 ∨ s = 8 ∨ s = 9 ∨ s = 10 ∨ s = 11 ∨ s = 12 ∨ s = 13 ∨ s = 14 ∨ s = 15 ∨ s = 16 ∨ s = 17 ∨ s = 18 ∨ s = 19 ∨ s = 20 ∨ s = 21 ∨ s = 22 ∨ s = 23 ∨ s = 24 ∨ s = 25 ∨ s = 26 ∨ s = 27 ∨ s = 28 ∨ s = 29 := by omega
  rcases h with rfl | rfl | rfl | rfl | rfl | rfl | rfl | rfl | rfl | rfl | rfl | rfl | rfl | rfl | rfl | rfl | rfl | rfl | rfl | rfl | rfl | rfl | rfl | rfl | rfl | rfl | rfl | rfl | rfl | rfl
  · exact rdst_0 w
  · exact rdst_1 w
  · exact rdst_2 w
  · exact rdst_3 w
  · exact rdst_4 w
  · exact rdst_5 w
  · exact rdst_6 w
  · exact rdst_7 w
  · exact rdst_8 w
  · exact rdst_9 w
  · exact rdst_10 w
  · exact rdst_11 w
  · exact rdst_12 w
  · exact rdst_13 w
  · exact rdst_14 w
  · exact rdst_15 w
  · exact rdst_16 w
  · exact rdst_17 w
  · exact rdst_18 w
  · exact rdst_19 w
  · exact rdst_20 w
  · exact rdst_21 w
  · exact rdst_22 w
  · exact rdst_23 w
  · exact rdst_24 w
  · exact rdst_25 w
  · exact rdst_26 w
  · exact rdst_27 w
  · exact rdst_28 w
  · exact rdst_29 w
end Go.Proofs.Ythegehgjpehfkaa
