/-
  DERIVED. GIVEN WITH THE SEED: THE CARDS: each row of YtlilmidffcmkjabDoorRows.lean that lists a variable, with what it lists TIED to the program's text (the seventh form; the later family's looks); each row that meets fmt, with fmt's text TOLD by the authors' own Lean function (tested against real Go, not proved from fmt's source: count such statements apart). THE CARD IS WHAT COUNTS. Prove the row's statement (the work); the ties are given (YtlilmidffcmkjabDoorTie.lean); close each card by the builder's one call (the guide's Derived/Test/ToyasCard.lean, 'card_holds'). Laid BY PROGRAM, IN A SANDBOX (cutbox-door.mjs). By AI agents, Wed Nov 11 2026. No macro, syntax, notation, axiom, sorry.
-/
import Derived.Test.YtlilmidffcmkjabDoorRows
import GoSem.ClaimSeven
namespace Go.Proofs.YtlilmidffcmkjabDoor
namespace Rows

/-- THE TIED CARD OF 'mortiselaw11.ExpRenamed'. -/
def expRenamedCard : Claim7 := { stood := { row := expRenamedRow, standIns := [], harness := (true, "9233624da3d05c47b3422d3a27450d73fbfc52430d77bed4056c55ffefe85442"), looks := true }, kinds := [], alts := [], laidByText := true, laidKinds := [.data, .data, .data, .data, .sentinel, .sentinel, .data, .pinned], laidTests := true, laidLooks := .later }
def ExpRenamedCardSaid : Prop := Claim7.holds Tryd.pinned (.plain (OpenSpec.ofChange expRenamedSpec)) expRenamedCard

/-- THE SECOND FORM's CARD OF 'mortiselaw11.ExpRenamed'. -/
def expRenamedUptoCard : Claim7 := { stood := { row := expRenamedUptoRow, standIns := [], harness := (true, "9233624da3d05c47b3422d3a27450d73fbfc52430d77bed4056c55ffefe85442"), looks := true }, kinds := [], alts := [], laidByText := true, laidKinds := [.data, .data, .data, .data, .sentinel, .sentinel, .data, .pinned], laidTests := true, laidLooks := .later }
def ExpRenamedUptoCardSaid : Prop := Claim7.holds Tryd.pinned (.plain (OpenSpec.upto expRenamedSpec)) expRenamedUptoCard
end Rows
end Go.Proofs.YtlilmidffcmkjabDoor
