/-
  DERIVED. GIVEN WITH THE SEED: THE CARDS: each row of YtkmbgkcpohchhaaGreatDoorRows.lean that lists a variable, with what it lists TIED to the program's text (the seventh form; the later family's looks); each row that meets fmt, with fmt's text TOLD by the authors' own Lean function (tested against real Go, not proved from fmt's source: count such statements apart). THE CARD IS WHAT COUNTS. Prove the row's statement (the work); the ties are given (YtkmbgkcpohchhaaGreatDoorTie.lean); close each card by the builder's one call (the guide's Derived/Test/ToyasCard.lean, 'card_holds'). Laid BY PROGRAM, IN A SANDBOX (cutbox-door.mjs). By AI agents, Wed Nov 11 2026. No macro, syntax, notation, axiom, sorry.
-/
import Derived.Test.YtkmbgkcpohchhaaGreatDoorRows
import GoSem.ClaimSeven
namespace Go.Proofs.YtkmbgkcpohchhaaGreatDoor
namespace Rows

/-- THE TIED CARD OF 'mortiselaw09.DeflateDynamic'. -/
def deflateDynamicCard : Claim7 := { stood := { row := deflateDynamicRow, standIns := [], harness := (true, "a4b8414fe6f17a86583c7eb1a8d1d14acc41bf09af5952cb5a996928f7a33e99"), looks := true }, kinds := [], alts := [], laidByText := true, laidKinds := [.data], laidTests := true, laidLooks := .later }
def DeflateDynamicCardSaid : Prop := Claim7.holds Tryz.pinned (.plain (OpenSpec.ofChange deflateDynamicSpec)) deflateDynamicCard

/-- THE TIED CARD OF 'mortiselaw09.DeflateBack'. -/
def deflateBackCard : Claim7 := { stood := { row := deflateBackRow, standIns := [], harness := (true, "a4b8414fe6f17a86583c7eb1a8d1d14acc41bf09af5952cb5a996928f7a33e99"), looks := true }, kinds := [], alts := [], laidByText := true, laidKinds := [.data], laidTests := true, laidLooks := .later }
def DeflateBackCardSaid : Prop := Claim7.holds Tryz.pinned (.plain (OpenSpec.ofChange deflateBackSpec)) deflateBackCard

/-- THE TIED CARD OF 'mortiselaw09.DeflateInflate'. -/
def deflateInflateCard : Claim7 := { stood := { row := deflateInflateRow, standIns := [], harness := (true, "a4b8414fe6f17a86583c7eb1a8d1d14acc41bf09af5952cb5a996928f7a33e99"), looks := true }, kinds := [], alts := [], laidByText := true, laidKinds := [.data, .wider, .wider, .data], laidTests := true, laidLooks := .later }
def DeflateInflateCardSaid : Prop := Claim7.holds Tryz.pinned (.plain (OpenSpec.ofChange deflateInflateSpec)) deflateInflateCard

/-- THE TIED CARD OF 'mortiselaw10.ZlibZips'. -/
def zlibZipsCard : Claim7 := { stood := { row := zlibZipsRow, standIns := [], harness := (true, "a4b8414fe6f17a86583c7eb1a8d1d14acc41bf09af5952cb5a996928f7a33e99"), looks := true }, kinds := [], alts := [], laidByText := true, laidKinds := [.data, .wider, .wider, .data], laidTests := true, laidLooks := .later }
def ZlibZipsCardSaid : Prop := Claim7.holds Tryz.pinned (.plain (OpenSpec.ofChange zlibZipsSpec)) zlibZipsCard

/-- THE TIED CARD OF 'mortiselaw10.ZlibBack'. -/
def zlibBackCard : Claim7 := { stood := { row := zlibBackRow, standIns := [], harness := (true, "a4b8414fe6f17a86583c7eb1a8d1d14acc41bf09af5952cb5a996928f7a33e99"), looks := true }, kinds := [], alts := [], laidByText := true, laidKinds := [.data, .wider, .wider, .data], laidTests := true, laidLooks := .later }
def ZlibBackCardSaid : Prop := Claim7.holds Tryz.pinned (.plain (OpenSpec.ofChange zlibBackSpec)) zlibBackCard

/-- THE TIED CARD OF 'mortiselaw10.ZlibTurned'. -/
def zlibTurnedCard : Claim7 := { stood := { row := zlibTurnedRow, standIns := [], harness := (true, "a4b8414fe6f17a86583c7eb1a8d1d14acc41bf09af5952cb5a996928f7a33e99"), looks := true }, kinds := [], alts := [], laidByText := true, laidKinds := [.data, .wider, .wider, .data], laidTests := true, laidLooks := .later }
def ZlibTurnedCardSaid : Prop := Claim7.holds Tryz.pinned (.plain (OpenSpec.ofChange zlibTurnedSpec)) zlibTurnedCard

/-- THE SECOND FORM's CARD OF 'mortiselaw09.DeflateDynamic'. -/
def deflateDynamicUptoCard : Claim7 := { stood := { row := deflateDynamicUptoRow, standIns := [], harness := (true, "a4b8414fe6f17a86583c7eb1a8d1d14acc41bf09af5952cb5a996928f7a33e99"), looks := true }, kinds := [], alts := [], laidByText := true, laidKinds := [.data], laidTests := true, laidLooks := .later }
def DeflateDynamicUptoCardSaid : Prop := Claim7.holds Tryz.pinned (.plain (OpenSpec.upto deflateDynamicSpec)) deflateDynamicUptoCard

/-- THE SECOND FORM's CARD OF 'mortiselaw09.DeflateBack'. -/
def deflateBackUptoCard : Claim7 := { stood := { row := deflateBackUptoRow, standIns := [], harness := (true, "a4b8414fe6f17a86583c7eb1a8d1d14acc41bf09af5952cb5a996928f7a33e99"), looks := true }, kinds := [], alts := [], laidByText := true, laidKinds := [.data], laidTests := true, laidLooks := .later }
def DeflateBackUptoCardSaid : Prop := Claim7.holds Tryz.pinned (.plain (OpenSpec.upto deflateBackSpec)) deflateBackUptoCard

/-- THE SECOND FORM's CARD OF 'mortiselaw09.DeflateInflate'. -/
def deflateInflateUptoCard : Claim7 := { stood := { row := deflateInflateUptoRow, standIns := [], harness := (true, "a4b8414fe6f17a86583c7eb1a8d1d14acc41bf09af5952cb5a996928f7a33e99"), looks := true }, kinds := [], alts := [], laidByText := true, laidKinds := [.data, .wider, .wider, .data], laidTests := true, laidLooks := .later }
def DeflateInflateUptoCardSaid : Prop := Claim7.holds Tryz.pinned (.plain (OpenSpec.upto deflateInflateSpec)) deflateInflateUptoCard

/-- THE SECOND FORM's CARD OF 'mortiselaw10.ZlibZips'. -/
def zlibZipsUptoCard : Claim7 := { stood := { row := zlibZipsUptoRow, standIns := [], harness := (true, "a4b8414fe6f17a86583c7eb1a8d1d14acc41bf09af5952cb5a996928f7a33e99"), looks := true }, kinds := [], alts := [], laidByText := true, laidKinds := [.data, .wider, .wider, .data], laidTests := true, laidLooks := .later }
def ZlibZipsUptoCardSaid : Prop := Claim7.holds Tryz.pinned (.plain (OpenSpec.upto zlibZipsSpec)) zlibZipsUptoCard

/-- THE SECOND FORM's CARD OF 'mortiselaw10.ZlibBack'. -/
def zlibBackUptoCard : Claim7 := { stood := { row := zlibBackUptoRow, standIns := [], harness := (true, "a4b8414fe6f17a86583c7eb1a8d1d14acc41bf09af5952cb5a996928f7a33e99"), looks := true }, kinds := [], alts := [], laidByText := true, laidKinds := [.data, .wider, .wider, .data], laidTests := true, laidLooks := .later }
def ZlibBackUptoCardSaid : Prop := Claim7.holds Tryz.pinned (.plain (OpenSpec.upto zlibBackSpec)) zlibBackUptoCard

/-- THE SECOND FORM's CARD OF 'mortiselaw10.ZlibTurned'. -/
def zlibTurnedUptoCard : Claim7 := { stood := { row := zlibTurnedUptoRow, standIns := [], harness := (true, "a4b8414fe6f17a86583c7eb1a8d1d14acc41bf09af5952cb5a996928f7a33e99"), looks := true }, kinds := [], alts := [], laidByText := true, laidKinds := [.data, .wider, .wider, .data], laidTests := true, laidLooks := .later }
def ZlibTurnedUptoCardSaid : Prop := Claim7.holds Tryz.pinned (.plain (OpenSpec.upto zlibTurnedSpec)) zlibTurnedUptoCard
end Rows
end Go.Proofs.YtkmbgkcpohchhaaGreatDoor
