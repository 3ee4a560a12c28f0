/-
  DERIVED. GIVEN WITH THE SEED: THE CARDS: each row of YtlilmidffcmkjaaDoorRows.lean that lists a variable, with what it lists TIED to the program's text (the seventh form; the later family's looks); each row that meets fmt, with fmt's text TOLD by the authors' own Lean function (tested against real Go, not proved from fmt's source: count such statements apart). THE CARD IS WHAT COUNTS. Prove the row's statement (the work); the ties are given (YtlilmidffcmkjaaDoorTie.lean); close each card by the builder's one call (the guide's Derived/Test/ToyasCard.lean, 'card_holds'). Laid BY PROGRAM, IN A SANDBOX (cutbox-door.mjs). By AI agents, Wed Nov 11 2026. No macro, syntax, notation, axiom, sorry.
-/
import Derived.Test.YtlilmidffcmkjaaDoorRows
import GoSem.ClaimSeven
namespace Go.Proofs.YtlilmidffcmkjaaDoor
namespace Rows

/-- THE TIED CARD OF 'mortiselaw11.ExpChecks'. -/
def expChecksCard : Claim7 := { stood := { row := expChecksRow, standIns := [], harness := (true, "136c3ba729d68c1f0210e6d847a52c07605c61cbf31e86be60ac4ddd47fd400e"), looks := true }, kinds := [], alts := [], laidByText := true, laidKinds := [.data, .data, .data, .data, .sentinel, .sentinel, .data, .pinned], laidTests := true, laidLooks := .later }
def ExpChecksCardSaid : Prop := Claim7.holds Tryd.pinned (.plain (OpenSpec.ofChange expChecksSpec)) expChecksCard

/-- THE TIED CARD OF 'mortiselaw11.ExpPrints'. -/
def expPrintsCard : Claim7 := { stood := { row := expPrintsRow, standIns := [], harness := (true, "136c3ba729d68c1f0210e6d847a52c07605c61cbf31e86be60ac4ddd47fd400e"), looks := true }, kinds := [], alts := [], laidByText := true, laidKinds := [.data, .data, .data, .data, .sentinel, .sentinel, .data, .pinned], laidTests := true, laidLooks := .later }
def ExpPrintsCardSaid : Prop := Claim7.holds Tryd.pinned (.plain (OpenSpec.ofChange expPrintsSpec)) expPrintsCard

/-- THE TIED CARD OF 'mortiselaw11.ExpWorth'. -/
def expWorthCard : Claim7 := { stood := { row := expWorthRow, standIns := [], harness := (true, "136c3ba729d68c1f0210e6d847a52c07605c61cbf31e86be60ac4ddd47fd400e"), looks := true }, kinds := [], alts := [], laidByText := true, laidKinds := [.data, .data, .data, .data, .sentinel, .sentinel, .data, .pinned], laidTests := true, laidLooks := .later }
def ExpWorthCardSaid : Prop := Claim7.holds Tryd.pinned (.plain (OpenSpec.ofChange expWorthSpec)) expWorthCard

/-- THE TIED CARD OF 'mortiselaw11.ExpBack'. -/
def expBackCard : Claim7 := { stood := { row := expBackRow, standIns := [], harness := (true, "136c3ba729d68c1f0210e6d847a52c07605c61cbf31e86be60ac4ddd47fd400e"), looks := true }, kinds := [], alts := [], laidByText := true, laidKinds := [.data, .data, .data, .data, .sentinel, .sentinel, .data, .pinned], laidTests := true, laidLooks := .later }
def ExpBackCardSaid : Prop := Claim7.holds Tryd.pinned (.plain (OpenSpec.ofChange expBackSpec)) expBackCard

/-- THE TIED CARD OF 'mortiselaw11.ExpBrackets'. -/
def expBracketsCard : Claim7 := { stood := { row := expBracketsRow, standIns := [], harness := (true, "136c3ba729d68c1f0210e6d847a52c07605c61cbf31e86be60ac4ddd47fd400e"), looks := true }, kinds := [], alts := [], laidByText := true, laidKinds := [.data, .data, .data, .data, .sentinel, .sentinel, .data, .pinned], laidTests := true, laidLooks := .later }
def ExpBracketsCardSaid : Prop := Claim7.holds Tryd.pinned (.plain (OpenSpec.ofChange expBracketsSpec)) expBracketsCard

/-- THE SECOND FORM's CARD OF 'mortiselaw11.ExpChecks'. -/
def expChecksUptoCard : Claim7 := { stood := { row := expChecksUptoRow, standIns := [], harness := (true, "136c3ba729d68c1f0210e6d847a52c07605c61cbf31e86be60ac4ddd47fd400e"), looks := true }, kinds := [], alts := [], laidByText := true, laidKinds := [.data, .data, .data, .data, .sentinel, .sentinel, .data, .pinned], laidTests := true, laidLooks := .later }
def ExpChecksUptoCardSaid : Prop := Claim7.holds Tryd.pinned (.plain (OpenSpec.upto expChecksSpec)) expChecksUptoCard

/-- THE SECOND FORM's CARD OF 'mortiselaw11.ExpPrints'. -/
def expPrintsUptoCard : Claim7 := { stood := { row := expPrintsUptoRow, standIns := [], harness := (true, "136c3ba729d68c1f0210e6d847a52c07605c61cbf31e86be60ac4ddd47fd400e"), looks := true }, kinds := [], alts := [], laidByText := true, laidKinds := [.data, .data, .data, .data, .sentinel, .sentinel, .data, .pinned], laidTests := true, laidLooks := .later }
def ExpPrintsUptoCardSaid : Prop := Claim7.holds Tryd.pinned (.plain (OpenSpec.upto expPrintsSpec)) expPrintsUptoCard

/-- THE SECOND FORM's CARD OF 'mortiselaw11.ExpWorth'. -/
def expWorthUptoCard : Claim7 := { stood := { row := expWorthUptoRow, standIns := [], harness := (true, "136c3ba729d68c1f0210e6d847a52c07605c61cbf31e86be60ac4ddd47fd400e"), looks := true }, kinds := [], alts := [], laidByText := true, laidKinds := [.data, .data, .data, .data, .sentinel, .sentinel, .data, .pinned], laidTests := true, laidLooks := .later }
def ExpWorthUptoCardSaid : Prop := Claim7.holds Tryd.pinned (.plain (OpenSpec.upto expWorthSpec)) expWorthUptoCard

/-- THE SECOND FORM's CARD OF 'mortiselaw11.ExpBack'. -/
def expBackUptoCard : Claim7 := { stood := { row := expBackUptoRow, standIns := [], harness := (true, "136c3ba729d68c1f0210e6d847a52c07605c61cbf31e86be60ac4ddd47fd400e"), looks := true }, kinds := [], alts := [], laidByText := true, laidKinds := [.data, .data, .data, .data, .sentinel, .sentinel, .data, .pinned], laidTests := true, laidLooks := .later }
def ExpBackUptoCardSaid : Prop := Claim7.holds Tryd.pinned (.plain (OpenSpec.upto expBackSpec)) expBackUptoCard

/-- THE SECOND FORM's CARD OF 'mortiselaw11.ExpBrackets'. -/
def expBracketsUptoCard : Claim7 := { stood := { row := expBracketsUptoRow, standIns := [], harness := (true, "136c3ba729d68c1f0210e6d847a52c07605c61cbf31e86be60ac4ddd47fd400e"), looks := true }, kinds := [], alts := [], laidByText := true, laidKinds := [.data, .data, .data, .data, .sentinel, .sentinel, .data, .pinned], laidTests := true, laidLooks := .later }
def ExpBracketsUptoCardSaid : Prop := Claim7.holds Tryd.pinned (.plain (OpenSpec.upto expBracketsSpec)) expBracketsUptoCard
end Rows
end Go.Proofs.YtlilmidffcmkjaaDoor
