/-
  DERIVED. GIVEN WITH THE SEED: THE CARDS: each row of YtgkgimfdbkpbdaaDoorRows.lean that lists a variable, with what it lists TIED to the program's text (the seventh form; the later family's looks); each row that meets fmt, with fmt's text TOLD by the authors' own Lean function (tested against real Go, not proved from fmt's source: count such statements apart). THE CARD IS WHAT COUNTS. Prove the row's statement (the work); the ties are given (YtgkgimfdbkpbdaaDoorTie.lean); close each card by the builder's one call (the guide's Derived/Test/ToyasCard.lean, 'card_holds'). Laid BY PROGRAM, IN A SANDBOX (cutbox-door.mjs). By AI agents, Wed Nov 11 2026. No macro, syntax, notation, axiom, sorry.
-/
import Derived.Test.YtgkgimfdbkpbdaaDoorRows
import GoSem.ClaimSeven
namespace Go.Proofs.YtgkgimfdbkpbdaaDoor
namespace Rows

/-- THE TIED CARD OF 'mortiselaw19.WavSplits'. -/
def wavSplitsCard : Claim7 := { stood := { row := wavSplitsRow, standIns := [], harness := (true, "2759b31f16e8cb6367de7df43861fbf07e75b516fe32e28e21644f87b92ad617"), looks := false }, kinds := [], alts := [], laidByText := true, laidKinds := [.data], laidTests := true, laidLooks := .later }
def WavSplitsCardSaid : Prop := Claim7.holds Tryd.pinned (.plain (OpenSpec.ofChange wavSplitsSpec)) wavSplitsCard

/-- THE TIED CARD OF 'mortiselaw19.WavJoins'. -/
def wavJoinsCard : Claim7 := { stood := { row := wavJoinsRow, standIns := [], harness := (true, "2759b31f16e8cb6367de7df43861fbf07e75b516fe32e28e21644f87b92ad617"), looks := false }, kinds := [], alts := [], laidByText := true, laidKinds := [.data], laidTests := true, laidLooks := .later }
def WavJoinsCardSaid : Prop := Claim7.holds Tryd.pinned (.plain (OpenSpec.ofChange wavJoinsSpec)) wavJoinsCard

/-- THE TIED CARD OF 'mortiselaw19.WavWrites'. -/
def wavWritesCard : Claim7 := { stood := { row := wavWritesRow, standIns := [], harness := (true, "2759b31f16e8cb6367de7df43861fbf07e75b516fe32e28e21644f87b92ad617"), looks := false }, kinds := [], alts := [], laidByText := true, laidKinds := [.data], laidTests := true, laidLooks := .later }
def WavWritesCardSaid : Prop := Claim7.holds Tryd.pinned (.plain (OpenSpec.ofChange wavWritesSpec)) wavWritesCard

/-- THE TIED CARD OF 'mortiselaw19.WavBack'. -/
def wavBackCard : Claim7 := { stood := { row := wavBackRow, standIns := [], harness := (true, "2759b31f16e8cb6367de7df43861fbf07e75b516fe32e28e21644f87b92ad617"), looks := false }, kinds := [], alts := [], laidByText := true, laidKinds := [.data], laidTests := true, laidLooks := .later }
def WavBackCardSaid : Prop := Claim7.holds Tryd.pinned (.plain (OpenSpec.ofChange wavBackSpec)) wavBackCard

/-- THE TIED CARD OF 'mortiselaw19.WavJoined'. -/
def wavJoinedCard : Claim7 := { stood := { row := wavJoinedRow, standIns := [], harness := (true, "2759b31f16e8cb6367de7df43861fbf07e75b516fe32e28e21644f87b92ad617"), looks := false }, kinds := [], alts := [], laidByText := true, laidKinds := [.data], laidTests := true, laidLooks := .later }
def WavJoinedCardSaid : Prop := Claim7.holds Tryd.pinned (.plain (OpenSpec.ofChange wavJoinedSpec)) wavJoinedCard

/-- THE TIED CARD OF 'mortiselaw19.WavOrder'. -/
def wavOrderCard : Claim7 := { stood := { row := wavOrderRow, standIns := [], harness := (true, "2759b31f16e8cb6367de7df43861fbf07e75b516fe32e28e21644f87b92ad617"), looks := false }, kinds := [], alts := [], laidByText := true, laidKinds := [.data], laidTests := true, laidLooks := .later }
def WavOrderCardSaid : Prop := Claim7.holds Tryd.pinned (.plain (OpenSpec.ofChange wavOrderSpec)) wavOrderCard

/-- THE SECOND FORM's CARD OF 'mortiselaw19.WavSplits'. -/
def wavSplitsUptoCard : Claim7 := { stood := { row := wavSplitsUptoRow, standIns := [], harness := (true, "2759b31f16e8cb6367de7df43861fbf07e75b516fe32e28e21644f87b92ad617"), looks := false }, kinds := [], alts := [], laidByText := true, laidKinds := [.data], laidTests := true, laidLooks := .later }
def WavSplitsUptoCardSaid : Prop := Claim7.holds Tryd.pinned (.plain (OpenSpec.upto wavSplitsSpec)) wavSplitsUptoCard

/-- THE SECOND FORM's CARD OF 'mortiselaw19.WavJoins'. -/
def wavJoinsUptoCard : Claim7 := { stood := { row := wavJoinsUptoRow, standIns := [], harness := (true, "2759b31f16e8cb6367de7df43861fbf07e75b516fe32e28e21644f87b92ad617"), looks := false }, kinds := [], alts := [], laidByText := true, laidKinds := [.data], laidTests := true, laidLooks := .later }
def WavJoinsUptoCardSaid : Prop := Claim7.holds Tryd.pinned (.plain (OpenSpec.upto wavJoinsSpec)) wavJoinsUptoCard

/-- THE SECOND FORM's CARD OF 'mortiselaw19.WavWrites'. -/
def wavWritesUptoCard : Claim7 := { stood := { row := wavWritesUptoRow, standIns := [], harness := (true, "2759b31f16e8cb6367de7df43861fbf07e75b516fe32e28e21644f87b92ad617"), looks := false }, kinds := [], alts := [], laidByText := true, laidKinds := [.data], laidTests := true, laidLooks := .later }
def WavWritesUptoCardSaid : Prop := Claim7.holds Tryd.pinned (.plain (OpenSpec.upto wavWritesSpec)) wavWritesUptoCard

/-- THE SECOND FORM's CARD OF 'mortiselaw19.WavBack'. -/
def wavBackUptoCard : Claim7 := { stood := { row := wavBackUptoRow, standIns := [], harness := (true, "2759b31f16e8cb6367de7df43861fbf07e75b516fe32e28e21644f87b92ad617"), looks := false }, kinds := [], alts := [], laidByText := true, laidKinds := [.data], laidTests := true, laidLooks := .later }
def WavBackUptoCardSaid : Prop := Claim7.holds Tryd.pinned (.plain (OpenSpec.upto wavBackSpec)) wavBackUptoCard

/-- THE SECOND FORM's CARD OF 'mortiselaw19.WavJoined'. -/
def wavJoinedUptoCard : Claim7 := { stood := { row := wavJoinedUptoRow, standIns := [], harness := (true, "2759b31f16e8cb6367de7df43861fbf07e75b516fe32e28e21644f87b92ad617"), looks := false }, kinds := [], alts := [], laidByText := true, laidKinds := [.data], laidTests := true, laidLooks := .later }
def WavJoinedUptoCardSaid : Prop := Claim7.holds Tryd.pinned (.plain (OpenSpec.upto wavJoinedSpec)) wavJoinedUptoCard

/-- THE SECOND FORM's CARD OF 'mortiselaw19.WavOrder'. -/
def wavOrderUptoCard : Claim7 := { stood := { row := wavOrderUptoRow, standIns := [], harness := (true, "2759b31f16e8cb6367de7df43861fbf07e75b516fe32e28e21644f87b92ad617"), looks := false }, kinds := [], alts := [], laidByText := true, laidKinds := [.data], laidTests := true, laidLooks := .later }
def WavOrderUptoCardSaid : Prop := Claim7.holds Tryd.pinned (.plain (OpenSpec.upto wavOrderSpec)) wavOrderUptoCard
end Rows
end Go.Proofs.YtgkgimfdbkpbdaaDoor
