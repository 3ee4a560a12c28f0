/-
  NARROWER THAN 'FOR EVERY INPUT', by the rows' own cells (each row's printed sentence says how): WavSplits: laid · WavJoins: laid · WavWrites: laid · WavBack: laid · WavJoined: laid · WavOrder: laid.
  DERIVED. THE GIVEN ROWS OF THIS SEAT. 6 by the template 'for every input the law returns true; each argument reads behind the call as it read before'; 0 by the template 'total and deterministic' (their statements: YtgkgimfdbkpbdaaDoorTotals.lean).
  GIVEN WITH THE SEED: the statements are not yours to turn. If you find one false, say at which input.
  Laid BY PROGRAM, IN A SANDBOX (cutbox-rows.mjs): the forced cells as the released guide's own fill.sh prints them over the translation 4457b8e6dd15610b… (all of the seat's roots in one cut). By AI agents, Wed Nov 11 2026. No macro, syntax, notation, axiom, sorry.
-/
import Derived.Test.YtgkgimfdbkpbdaaDoorChecked
import GoSem.Claim
import GoSem.ClaimJoined
import GoSem.ClaimMapViews
import Derived.JoinedTies
import Derived.KernelRfl
namespace Go.Proofs.YtgkgimfdbkpbdaaDoor
/- THE CELL 'sum', in the pinned program and in every row, IS THE sha256 OF THE DUMP (.gsa) THAT YtgkgimfdbkpbdaaDoorProg.lean LOADS. Nothing in Lean hashes anything: it is a label: what it is worth is what the hold of that sum in a sandbox is worth. -/
noncomputable def Tryd.pinned : Pinned := { name := "ytgkgimfdbkpbdaadoor", sum := "4457b8e6dd15610bdfa3ed71c9b30ee4f605de3dc1643139dcebedbf8d81e399", checked := Tryd.checked }
namespace Rows
def none {H : Type} : Left H := { results := [], args := [] }

/- WHAT THE LISTED PACKAGE-LEVEL VARIABLES READ AS WHEN THE CALL BEGINS. Each datum BY PROGRAM (the guide's laid-datum.mjs) off the statement by which the dump's own 'gosem.cut.vars' lays the variable. In a bare row this is a premise. The card (YtgkgimfdbkpbdaaDoorCards.lean) ties it to the program's text. -/
def laid_mortise_wav_widths {H : Type} : DataW H := .agg [.lit (.int .i64 2), .lit (.int .i64 2), .lit (.int .i64 4), .lit (.int .i64 4), .lit (.int .i64 2), .lit (.int .i64 2)]

/-- 'mortiselaw19.WavSplits': WHATEVER THE INPUT: true; the input reads as it did. -/
def wavSplitsSpec : ChangeSpec := { name := "wavSplits", fn := fun _ => fun
  | [d] => { results := [.lit (.bool true)], args := [d] }
  | _ => none }
def wavSplitsRow : OpenClaim := { program := "ytgkgimfdbkpbdaadoor", sum := "4457b8e6dd15610bdfa3ed71c9b30ee4f605de3dc1643139dcebedbf8d81e399", func := "mortise/mortiselaw19.WavSplits", spec := "wavSplits", inPlace := ["internal/abi.NoEscape", "internal/bytealg.MakeNoZero"], unfollowed := true, recurses := true, named := ["mortise/wav.widths"], apart := false, laid := [("mortise/wav.widths", laid_mortise_wav_widths)] }
def WavSplitsSaid : Prop := wavSplitsRow.holds Tryd.pinned (OpenSpec.ofChange wavSplitsSpec)

/-- ITS FALSE NEIGHBOUR: 'it returns false'. Refute it at one input. -/
def wavSplitsWrong : ChangeSpec := { name := "wavSplits", fn := fun _ => fun
  | [d] => { results := [.lit (.bool false)], args := [d] }
  | _ => none }
def WavSplitsWrongFalsely : Prop := wavSplitsRow.holds Tryd.pinned (OpenSpec.ofChange wavSplitsWrong)

/-- 'mortiselaw19.WavJoins': WHATEVER THE INPUT: true; the input reads as it did. -/
def wavJoinsSpec : ChangeSpec := { name := "wavJoins", fn := fun _ => fun
  | [d1, d2] => { results := [.lit (.bool true)], args := [d1, d2] }
  | _ => none }
def wavJoinsRow : OpenClaim := { program := "ytgkgimfdbkpbdaadoor", sum := "4457b8e6dd15610bdfa3ed71c9b30ee4f605de3dc1643139dcebedbf8d81e399", func := "mortise/mortiselaw19.WavJoins", spec := "wavJoins", inPlace := ["internal/abi.NoEscape", "internal/bytealg.MakeNoZero"], unfollowed := true, recurses := true, named := ["mortise/wav.widths"], apart := false, laid := [("mortise/wav.widths", laid_mortise_wav_widths)] }
def WavJoinsSaid : Prop := wavJoinsRow.holds Tryd.pinned (OpenSpec.ofChange wavJoinsSpec)

/-- ITS FALSE NEIGHBOUR: 'it returns false'. Refute it at one input. -/
def wavJoinsWrong : ChangeSpec := { name := "wavJoins", fn := fun _ => fun
  | [d1, d2] => { results := [.lit (.bool false)], args := [d1, d2] }
  | _ => none }
def WavJoinsWrongFalsely : Prop := wavJoinsRow.holds Tryd.pinned (OpenSpec.ofChange wavJoinsWrong)

/-- 'mortiselaw19.WavWrites': WHATEVER THE INPUT: true; the input reads as it did. -/
def wavWritesSpec : ChangeSpec := { name := "wavWrites", fn := fun _ => fun
  | [d] => { results := [.lit (.bool true)], args := [d] }
  | _ => none }
def wavWritesRow : OpenClaim := { program := "ytgkgimfdbkpbdaadoor", sum := "4457b8e6dd15610bdfa3ed71c9b30ee4f605de3dc1643139dcebedbf8d81e399", func := "mortise/mortiselaw19.WavWrites", spec := "wavWrites", inPlace := ["internal/abi.NoEscape", "internal/bytealg.MakeNoZero"], unfollowed := true, recurses := true, named := ["mortise/wav.widths"], apart := false, laid := [("mortise/wav.widths", laid_mortise_wav_widths)] }
def WavWritesSaid : Prop := wavWritesRow.holds Tryd.pinned (OpenSpec.ofChange wavWritesSpec)

/-- ITS FALSE NEIGHBOUR: 'it returns false'. Refute it at one input. -/
def wavWritesWrong : ChangeSpec := { name := "wavWrites", fn := fun _ => fun
  | [d] => { results := [.lit (.bool false)], args := [d] }
  | _ => none }
def WavWritesWrongFalsely : Prop := wavWritesRow.holds Tryd.pinned (OpenSpec.ofChange wavWritesWrong)

/-- 'mortiselaw19.WavBack': WHATEVER THE INPUT: true; the input reads as it did. -/
def wavBackSpec : ChangeSpec := { name := "wavBack", fn := fun _ => fun
  | [d] => { results := [.lit (.bool true)], args := [d] }
  | _ => none }
def wavBackRow : OpenClaim := { program := "ytgkgimfdbkpbdaadoor", sum := "4457b8e6dd15610bdfa3ed71c9b30ee4f605de3dc1643139dcebedbf8d81e399", func := "mortise/mortiselaw19.WavBack", spec := "wavBack", inPlace := ["internal/abi.NoEscape", "internal/bytealg.MakeNoZero"], unfollowed := true, recurses := true, named := ["mortise/wav.widths"], apart := false, laid := [("mortise/wav.widths", laid_mortise_wav_widths)] }
def WavBackSaid : Prop := wavBackRow.holds Tryd.pinned (OpenSpec.ofChange wavBackSpec)

/-- ITS FALSE NEIGHBOUR: 'it returns false'. Refute it at one input. -/
def wavBackWrong : ChangeSpec := { name := "wavBack", fn := fun _ => fun
  | [d] => { results := [.lit (.bool false)], args := [d] }
  | _ => none }
def WavBackWrongFalsely : Prop := wavBackRow.holds Tryd.pinned (OpenSpec.ofChange wavBackWrong)

/-- 'mortiselaw19.WavJoined': WHATEVER THE INPUT: true; the input reads as it did. -/
def wavJoinedSpec : ChangeSpec := { name := "wavJoined", fn := fun _ => fun
  | [d1, d2, d3] => { results := [.lit (.bool true)], args := [d1, d2, d3] }
  | _ => none }
def wavJoinedRow : OpenClaim := { program := "ytgkgimfdbkpbdaadoor", sum := "4457b8e6dd15610bdfa3ed71c9b30ee4f605de3dc1643139dcebedbf8d81e399", func := "mortise/mortiselaw19.WavJoined", spec := "wavJoined", inPlace := ["internal/abi.NoEscape", "internal/bytealg.MakeNoZero"], unfollowed := true, recurses := true, named := ["mortise/wav.widths"], apart := false, laid := [("mortise/wav.widths", laid_mortise_wav_widths)] }
def WavJoinedSaid : Prop := wavJoinedRow.holds Tryd.pinned (OpenSpec.ofChange wavJoinedSpec)

/-- ITS FALSE NEIGHBOUR: 'it returns false'. Refute it at one input. -/
def wavJoinedWrong : ChangeSpec := { name := "wavJoined", fn := fun _ => fun
  | [d1, d2, d3] => { results := [.lit (.bool false)], args := [d1, d2, d3] }
  | _ => none }
def WavJoinedWrongFalsely : Prop := wavJoinedRow.holds Tryd.pinned (OpenSpec.ofChange wavJoinedWrong)

/-- 'mortiselaw19.WavOrder': WHATEVER THE INPUT: true; the input reads as it did. -/
def wavOrderSpec : ChangeSpec := { name := "wavOrder", fn := fun _ => fun
  | [d1, d2] => { results := [.lit (.bool true)], args := [d1, d2] }
  | _ => none }
def wavOrderRow : OpenClaim := { program := "ytgkgimfdbkpbdaadoor", sum := "4457b8e6dd15610bdfa3ed71c9b30ee4f605de3dc1643139dcebedbf8d81e399", func := "mortise/mortiselaw19.WavOrder", spec := "wavOrder", inPlace := ["internal/abi.NoEscape", "internal/bytealg.MakeNoZero"], unfollowed := true, recurses := true, named := ["mortise/wav.widths"], apart := false, laid := [("mortise/wav.widths", laid_mortise_wav_widths)] }
def WavOrderSaid : Prop := wavOrderRow.holds Tryd.pinned (OpenSpec.ofChange wavOrderSpec)

/-- ITS FALSE NEIGHBOUR: 'it returns false'. Refute it at one input. -/
def wavOrderWrong : ChangeSpec := { name := "wavOrder", fn := fun _ => fun
  | [d1, d2] => { results := [.lit (.bool false)], args := [d1, d2] }
  | _ => none }
def WavOrderWrongFalsely : Prop := wavOrderRow.holds Tryd.pinned (OpenSpec.ofChange wavOrderWrong)

/- THE SECOND FORM. 'bulk': how many values and letters a reading holds, each counted each time it is reached (what is shared counts as often as it is met; a slice's spare places count too). A statement '..UptoSaid' is the law's where the arguments, and the package variables that the reading takes, are together of bulk at most 1048576: NARROWER than '..Said'. Prove '..Said' where nothing that the law and all that it calls make is longer than what came in: it says more and counts as full. Else prove '..UptoSaid'. A law counts once. -/
mutual
def uptoBulk {H : Type} : DataW H → Nat
  | .lit (.string bytes) => bytes.length + 1
  | .lit _ => 1
  | .nil => 1
  | .ptr d => uptoBulk d + 1
  | .slice elems spare => uptoBulkAll elems + uptoBulkAll spare + 1
  | .agg parts => uptoBulkAll parts + 1
  | .iface _ d => uptoBulk d + 1
  | .map entries => uptoBulkEntries entries + 1
  | .held _ => 1
def uptoBulkAll {H : Type} : List (DataW H) → Nat
  | [] => 0
  | d :: r => uptoBulk d + uptoBulkAll r
def uptoBulkEntries {H : Type} : List (Lit × DataW H) → Nat
  | [] => 0
  | x :: r => uptoBulkEntry x + uptoBulkEntries r
def uptoBulkEntry {H : Type} : Lit × DataW H → Nat
  | (.string bytes, d) => bytes.length + uptoBulk d + 1
  | (_, d) => uptoBulk d + 1
 end
def uptoSmall : (H : Type) → List (DataW H) → Bool := fun _ ds => decide (uptoBulkAll ds ≤ 1048576)
def OpenSpec.upto (s : _root_.Go.ChangeSpec) : _root_.Go.OpenSpec := { _root_.Go.OpenSpec.ofChange s with cond := some uptoSmall }

/-- 'mortiselaw19.WavSplits', WHERE WHAT IT READS IS OF BULK AT MOST 1048576: true; the input reads as it did. -/
def wavSplitsUptoRow : OpenClaim := { program := "ytgkgimfdbkpbdaadoor", sum := "4457b8e6dd15610bdfa3ed71c9b30ee4f605de3dc1643139dcebedbf8d81e399", func := "mortise/mortiselaw19.WavSplits", spec := "wavSplits", inPlace := ["internal/abi.NoEscape", "internal/bytealg.MakeNoZero"], unfollowed := true, recurses := true, named := ["mortise/wav.widths"], apart := false, laid := [("mortise/wav.widths", laid_mortise_wav_widths)], narrowed := true }
def WavSplitsUptoSaid : Prop := wavSplitsUptoRow.holds Tryd.pinned (OpenSpec.upto wavSplitsSpec)

/-- 'mortiselaw19.WavJoins', WHERE WHAT IT READS IS OF BULK AT MOST 1048576: true; the input reads as it did. -/
def wavJoinsUptoRow : OpenClaim := { program := "ytgkgimfdbkpbdaadoor", sum := "4457b8e6dd15610bdfa3ed71c9b30ee4f605de3dc1643139dcebedbf8d81e399", func := "mortise/mortiselaw19.WavJoins", spec := "wavJoins", inPlace := ["internal/abi.NoEscape", "internal/bytealg.MakeNoZero"], unfollowed := true, recurses := true, named := ["mortise/wav.widths"], apart := false, laid := [("mortise/wav.widths", laid_mortise_wav_widths)], narrowed := true }
def WavJoinsUptoSaid : Prop := wavJoinsUptoRow.holds Tryd.pinned (OpenSpec.upto wavJoinsSpec)

/-- 'mortiselaw19.WavWrites', WHERE WHAT IT READS IS OF BULK AT MOST 1048576: true; the input reads as it did. -/
def wavWritesUptoRow : OpenClaim := { program := "ytgkgimfdbkpbdaadoor", sum := "4457b8e6dd15610bdfa3ed71c9b30ee4f605de3dc1643139dcebedbf8d81e399", func := "mortise/mortiselaw19.WavWrites", spec := "wavWrites", inPlace := ["internal/abi.NoEscape", "internal/bytealg.MakeNoZero"], unfollowed := true, recurses := true, named := ["mortise/wav.widths"], apart := false, laid := [("mortise/wav.widths", laid_mortise_wav_widths)], narrowed := true }
def WavWritesUptoSaid : Prop := wavWritesUptoRow.holds Tryd.pinned (OpenSpec.upto wavWritesSpec)

/-- 'mortiselaw19.WavBack', WHERE WHAT IT READS IS OF BULK AT MOST 1048576: true; the input reads as it did. -/
def wavBackUptoRow : OpenClaim := { program := "ytgkgimfdbkpbdaadoor", sum := "4457b8e6dd15610bdfa3ed71c9b30ee4f605de3dc1643139dcebedbf8d81e399", func := "mortise/mortiselaw19.WavBack", spec := "wavBack", inPlace := ["internal/abi.NoEscape", "internal/bytealg.MakeNoZero"], unfollowed := true, recurses := true, named := ["mortise/wav.widths"], apart := false, laid := [("mortise/wav.widths", laid_mortise_wav_widths)], narrowed := true }
def WavBackUptoSaid : Prop := wavBackUptoRow.holds Tryd.pinned (OpenSpec.upto wavBackSpec)

/-- 'mortiselaw19.WavJoined', WHERE WHAT IT READS IS OF BULK AT MOST 1048576: true; the input reads as it did. -/
def wavJoinedUptoRow : OpenClaim := { program := "ytgkgimfdbkpbdaadoor", sum := "4457b8e6dd15610bdfa3ed71c9b30ee4f605de3dc1643139dcebedbf8d81e399", func := "mortise/mortiselaw19.WavJoined", spec := "wavJoined", inPlace := ["internal/abi.NoEscape", "internal/bytealg.MakeNoZero"], unfollowed := true, recurses := true, named := ["mortise/wav.widths"], apart := false, laid := [("mortise/wav.widths", laid_mortise_wav_widths)], narrowed := true }
def WavJoinedUptoSaid : Prop := wavJoinedUptoRow.holds Tryd.pinned (OpenSpec.upto wavJoinedSpec)

/-- 'mortiselaw19.WavOrder', WHERE WHAT IT READS IS OF BULK AT MOST 1048576: true; the input reads as it did. -/
def wavOrderUptoRow : OpenClaim := { program := "ytgkgimfdbkpbdaadoor", sum := "4457b8e6dd15610bdfa3ed71c9b30ee4f605de3dc1643139dcebedbf8d81e399", func := "mortise/mortiselaw19.WavOrder", spec := "wavOrder", inPlace := ["internal/abi.NoEscape", "internal/bytealg.MakeNoZero"], unfollowed := true, recurses := true, named := ["mortise/wav.widths"], apart := false, laid := [("mortise/wav.widths", laid_mortise_wav_widths)], narrowed := true }
def WavOrderUptoSaid : Prop := wavOrderUptoRow.holds Tryd.pinned (OpenSpec.upto wavOrderSpec)

end Rows
end Go.Proofs.YtgkgimfdbkpbdaaDoor
