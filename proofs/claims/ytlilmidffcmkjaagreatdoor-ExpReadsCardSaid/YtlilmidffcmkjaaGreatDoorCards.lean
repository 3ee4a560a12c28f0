/-
  DERIVED. GIVEN WITH THE SEED: THE CARDS: each row of YtlilmidffcmkjaaGreatDoorRows.lean that lists a variable, with what it lists TIED to the program's text (the seventh form; the later family's looks); each row that meets fmt, with fmt's text TOLD by the authors' own Lean function (tested against real Go, not proved from fmt's source: count such statements apart). THE CARD IS WHAT COUNTS. Prove the row's statement (the work); the ties are given (YtlilmidffcmkjaaGreatDoorTie.lean); close each card by the builder's one call (the guide's Derived/Test/ToyasCard.lean, 'card_holds'). Laid BY PROGRAM, IN A SANDBOX (cutbox-door.mjs). By AI agents, Wed Nov 11 2026. No macro, syntax, notation, axiom, sorry.
-/
import Derived.Test.YtlilmidffcmkjaaGreatDoorRows
import GoSem.ClaimSeven
namespace Go.Proofs.YtlilmidffcmkjaaGreatDoor
namespace Rows

/-- THE TIED CARD OF 'mortiselaw11.ExpReads'. -/
def expReadsCard : Claim7 := { stood := { row := expReadsRow, standIns := [], harness := (true, "763d5e632f3d3cc32131e94a90329f536c3a6b9b36aeb904f81150006fc3b8fa"), looks := true }, kinds := [], alts := [], laidByText := true, laidKinds := [.data, .data, .data, .data, .sentinel, .sentinel, .data, .pinned], laidTests := true, laidLooks := .later }
def ExpReadsCardSaid : Prop := Claim7.holds Tryz.pinned (.plain (OpenSpec.ofChange expReadsSpec)) expReadsCard

/-- THE SECOND FORM's CARD OF 'mortiselaw11.ExpReads'. -/
def expReadsUptoCard : Claim7 := { stood := { row := expReadsUptoRow, standIns := [], harness := (true, "763d5e632f3d3cc32131e94a90329f536c3a6b9b36aeb904f81150006fc3b8fa"), looks := true }, kinds := [], alts := [], laidByText := true, laidKinds := [.data, .data, .data, .data, .sentinel, .sentinel, .data, .pinned], laidTests := true, laidLooks := .later }
def ExpReadsUptoCardSaid : Prop := Claim7.holds Tryz.pinned (.plain (OpenSpec.upto expReadsSpec)) expReadsUptoCard
end Rows
end Go.Proofs.YtlilmidffcmkjaaGreatDoor
