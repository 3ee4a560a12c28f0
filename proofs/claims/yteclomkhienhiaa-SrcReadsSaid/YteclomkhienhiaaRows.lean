/-
  No cell of these rows narrows 'for every input' (looked for: loops, veiled, ifaces, maps, wideKeys, modest, calm, conditions, laid).
  DERIVED. THE GIVEN ROWS OF THIS SEAT. 6 by the template 'for every input the law returns true; each argument reads behind the call as it read before'; 0 by the template 'total and deterministic' (their statements: YteclomkhienhiaaTotals.lean).
  GIVEN WITH THE SEED: the statements are not yours to turn. If you find one false, say at which input.
  Laid BY PROGRAM, IN A SANDBOX (cutbox-rows.mjs): the forced cells as the released guide's own fill.sh prints them over the translation 3c2f266df5cc45c4… (all of the seat's roots in one cut). By AI agents, Wed Nov 11 2026. No macro, syntax, notation, axiom, sorry.
-/
import Derived.Test.YteclomkhienhiaaChecked
import GoSem.Claim
import GoSem.ClaimJoined
import GoSem.ClaimMapViews
import Derived.JoinedTies
import Derived.KernelRfl
namespace Go.Proofs.Yteclomkhienhiaa
/- THE CELL 'sum', in the pinned program and in every row, IS THE sha256 OF THE DUMP (.gsa) THAT YteclomkhienhiaaProg.lean LOADS. Nothing in Lean hashes anything: it is a label: what it is worth is what the hold of that sum in a sandbox is worth. -/
noncomputable def Try.pinned : Pinned := { name := "yteclomkhienhiaa", sum := "3c2f266df5cc45c4c2c0a1e779c53992ea95957de50fc79d2d056e37cd7048bd", checked := Try.checked }
namespace Rows
def none {H : Type} : Left H := { results := [], args := [] }

/-- 'mortiselaw02.SrcReads': WHATEVER THE INPUT: true; the input reads as it did. -/
def srcReadsSpec : ChangeSpec := { name := "srcReads", fn := fun _ => fun
  | [d1, d2, d3] => { results := [.lit (.bool true)], args := [d1, d2, d3] }
  | _ => none }
def srcReadsRow : OpenClaim := { program := "yteclomkhienhiaa", sum := "3c2f266df5cc45c4c2c0a1e779c53992ea95957de50fc79d2d056e37cd7048bd", func := "mortise/mortiselaw02.SrcReads", spec := "srcReads", inPlace := ["internal/abi.NoEscape"], apart := false }
def SrcReadsSaid : Prop := srcReadsRow.holds Try.pinned (OpenSpec.ofChange srcReadsSpec)

/-- ITS FALSE NEIGHBOUR: 'it returns false'. Refute it at one input. -/
def srcReadsWrong : ChangeSpec := { name := "srcReads", fn := fun _ => fun
  | [d1, d2, d3] => { results := [.lit (.bool false)], args := [d1, d2, d3] }
  | _ => none }
def SrcReadsWrongFalsely : Prop := srcReadsRow.holds Try.pinned (OpenSpec.ofChange srcReadsWrong)

/-- 'mortiselaw04.RegionsAdds': WHATEVER THE INPUT: true; the input reads as it did. -/
def regionsAddsSpec : ChangeSpec := { name := "regionsAdds", fn := fun _ => fun
  | [d1, d2, d3] => { results := [.lit (.bool true)], args := [d1, d2, d3] }
  | _ => none }
def regionsAddsRow : OpenClaim := { program := "yteclomkhienhiaa", sum := "3c2f266df5cc45c4c2c0a1e779c53992ea95957de50fc79d2d056e37cd7048bd", func := "mortise/mortiselaw04.RegionsAdds", spec := "regionsAdds", inPlace := ["slices.overlaps[mortise/regions.part[int]]", "slices.overlaps[[]mortise/regions.part[int]]"], unfollowed := true, recurses := true, apart := false }
def RegionsAddsSaid : Prop := regionsAddsRow.holds Try.pinned (OpenSpec.ofChange regionsAddsSpec)

/-- ITS FALSE NEIGHBOUR: 'it returns false'. Refute it at one input. -/
def regionsAddsWrong : ChangeSpec := { name := "regionsAdds", fn := fun _ => fun
  | [d1, d2, d3] => { results := [.lit (.bool false)], args := [d1, d2, d3] }
  | _ => none }
def RegionsAddsWrongFalsely : Prop := regionsAddsRow.holds Try.pinned (OpenSpec.ofChange regionsAddsWrong)

/-- 'mortiselaw04.RegionsFinds': WHATEVER THE INPUT: true; the input reads as it did. -/
def regionsFindsSpec : ChangeSpec := { name := "regionsFinds", fn := fun _ => fun
  | [d1, d2] => { results := [.lit (.bool true)], args := [d1, d2] }
  | _ => none }
def regionsFindsRow : OpenClaim := { program := "yteclomkhienhiaa", sum := "3c2f266df5cc45c4c2c0a1e779c53992ea95957de50fc79d2d056e37cd7048bd", func := "mortise/mortiselaw04.RegionsFinds", spec := "regionsFinds", inPlace := ["slices.overlaps[mortise/regions.part[int]]", "slices.overlaps[[]mortise/regions.part[int]]"], unfollowed := true, recurses := true, apart := false }
def RegionsFindsSaid : Prop := regionsFindsRow.holds Try.pinned (OpenSpec.ofChange regionsFindsSpec)

/-- ITS FALSE NEIGHBOUR: 'it returns false'. Refute it at one input. -/
def regionsFindsWrong : ChangeSpec := { name := "regionsFinds", fn := fun _ => fun
  | [d1, d2] => { results := [.lit (.bool false)], args := [d1, d2] }
  | _ => none }
def RegionsFindsWrongFalsely : Prop := regionsFindsRow.holds Try.pinned (OpenSpec.ofChange regionsFindsWrong)

/-- 'mortiselaw04.RegionsAll': WHATEVER THE INPUT: true; the input reads as it did. -/
def regionsAllSpec : ChangeSpec := { name := "regionsAll", fn := fun _ => fun
  | [d1, d2, d3] => { results := [.lit (.bool true)], args := [d1, d2, d3] }
  | _ => none }
def regionsAllRow : OpenClaim := { program := "yteclomkhienhiaa", sum := "3c2f266df5cc45c4c2c0a1e779c53992ea95957de50fc79d2d056e37cd7048bd", func := "mortise/mortiselaw04.RegionsAll", spec := "regionsAll", inPlace := ["slices.overlaps[mortise/regions.part[int]]", "slices.overlaps[[]mortise/regions.part[int]]"], unfollowed := true, recurses := true, apart := false }
def RegionsAllSaid : Prop := regionsAllRow.holds Try.pinned (OpenSpec.ofChange regionsAllSpec)

/-- ITS FALSE NEIGHBOUR: 'it returns false'. Refute it at one input. -/
def regionsAllWrong : ChangeSpec := { name := "regionsAll", fn := fun _ => fun
  | [d1, d2, d3] => { results := [.lit (.bool false)], args := [d1, d2, d3] }
  | _ => none }
def RegionsAllWrongFalsely : Prop := regionsAllRow.holds Try.pinned (OpenSpec.ofChange regionsAllWrong)

/-- 'mortiselaw04.RegionsTurned': WHATEVER THE INPUT: true; the input reads as it did. -/
def regionsTurnedSpec : ChangeSpec := { name := "regionsTurned", fn := fun _ => fun
  | [d] => { results := [.lit (.bool true)], args := [d] }
  | _ => none }
def regionsTurnedRow : OpenClaim := { program := "yteclomkhienhiaa", sum := "3c2f266df5cc45c4c2c0a1e779c53992ea95957de50fc79d2d056e37cd7048bd", func := "mortise/mortiselaw04.RegionsTurned", spec := "regionsTurned", inPlace := ["slices.overlaps[mortise/regions.part[mortise/api.Span]]", "slices.overlaps[[]mortise/regions.part[mortise/api.Span]]", "slices.overlaps[mortise/regions.part[int]]", "slices.overlaps[[]mortise/regions.part[int]]"], unfollowed := true, recurses := true, apart := false }
def RegionsTurnedSaid : Prop := regionsTurnedRow.holds Try.pinned (OpenSpec.ofChange regionsTurnedSpec)

/-- ITS FALSE NEIGHBOUR: 'it returns false'. Refute it at one input. -/
def regionsTurnedWrong : ChangeSpec := { name := "regionsTurned", fn := fun _ => fun
  | [d] => { results := [.lit (.bool false)], args := [d] }
  | _ => none }
def RegionsTurnedWrongFalsely : Prop := regionsTurnedRow.holds Try.pinned (OpenSpec.ofChange regionsTurnedWrong)

/-- 'mortiselaw04.RegionsBytes': WHATEVER THE INPUT: true; the input reads as it did. -/
def regionsBytesSpec : ChangeSpec := { name := "regionsBytes", fn := fun _ => fun
  | [d] => { results := [.lit (.bool true)], args := [d] }
  | _ => none }
def regionsBytesRow : OpenClaim := { program := "yteclomkhienhiaa", sum := "3c2f266df5cc45c4c2c0a1e779c53992ea95957de50fc79d2d056e37cd7048bd", func := "mortise/mortiselaw04.RegionsBytes", spec := "regionsBytes", inPlace := ["slices.overlaps[mortise/regions.part[int]]", "slices.overlaps[[]mortise/regions.part[int]]"], unfollowed := true, recurses := true, apart := false }
def RegionsBytesSaid : Prop := regionsBytesRow.holds Try.pinned (OpenSpec.ofChange regionsBytesSpec)

/-- ITS FALSE NEIGHBOUR: 'it returns false'. Refute it at one input. -/
def regionsBytesWrong : ChangeSpec := { name := "regionsBytes", fn := fun _ => fun
  | [d] => { results := [.lit (.bool false)], args := [d] }
  | _ => none }
def RegionsBytesWrongFalsely : Prop := regionsBytesRow.holds Try.pinned (OpenSpec.ofChange regionsBytesWrong)

/- THE SECOND FORM. 'bulk': how many values and letters a reading holds, each counted each time it is reached (what is shared counts as often as it is met; a slice's spare places count too). A statement '..UptoSaid' is the law's where the arguments, and the package variables that the reading takes, are together of bulk at most 1048576: NARROWER than '..Said'. Prove '..Said' where nothing that the law and all that it calls make is longer than what came in: it says more and counts as full. Else prove '..UptoSaid'. A law counts once. -/
mutual
def uptoBulk {H : Type} : DataW H → Nat
  | .lit (.string bytes) => bytes.length + 1
  | .lit _ => 1
  | .nil => 1
  | .ptr d => uptoBulk d + 1
  | .slice elems spare => uptoBulkAll elems + uptoBulkAll spare + 1
  | .agg parts => uptoBulkAll parts + 1
  | .iface _ d => uptoBulk d + 1
  | .map entries => uptoBulkEntries entries + 1
  | .held _ => 1
def uptoBulkAll {H : Type} : List (DataW H) → Nat
  | [] => 0
  | d :: r => uptoBulk d + uptoBulkAll r
def uptoBulkEntries {H : Type} : List (Lit × DataW H) → Nat
  | [] => 0
  | x :: r => uptoBulkEntry x + uptoBulkEntries r
def uptoBulkEntry {H : Type} : Lit × DataW H → Nat
  | (.string bytes, d) => bytes.length + uptoBulk d + 1
  | (_, d) => uptoBulk d + 1
 end
def uptoSmall : (H : Type) → List (DataW H) → Bool := fun _ ds => decide (uptoBulkAll ds ≤ 1048576)
def OpenSpec.upto (s : _root_.Go.ChangeSpec) : _root_.Go.OpenSpec := { _root_.Go.OpenSpec.ofChange s with cond := some uptoSmall }

/-- 'mortiselaw02.SrcReads', WHERE WHAT IT READS IS OF BULK AT MOST 1048576: true; the input reads as it did. -/
def srcReadsUptoRow : OpenClaim := { program := "yteclomkhienhiaa", sum := "3c2f266df5cc45c4c2c0a1e779c53992ea95957de50fc79d2d056e37cd7048bd", func := "mortise/mortiselaw02.SrcReads", spec := "srcReads", inPlace := ["internal/abi.NoEscape"], apart := false, narrowed := true }
def SrcReadsUptoSaid : Prop := srcReadsUptoRow.holds Try.pinned (OpenSpec.upto srcReadsSpec)

/-- 'mortiselaw04.RegionsAdds', WHERE WHAT IT READS IS OF BULK AT MOST 1048576: true; the input reads as it did. -/
def regionsAddsUptoRow : OpenClaim := { program := "yteclomkhienhiaa", sum := "3c2f266df5cc45c4c2c0a1e779c53992ea95957de50fc79d2d056e37cd7048bd", func := "mortise/mortiselaw04.RegionsAdds", spec := "regionsAdds", inPlace := ["slices.overlaps[mortise/regions.part[int]]", "slices.overlaps[[]mortise/regions.part[int]]"], unfollowed := true, recurses := true, apart := false, narrowed := true }
def RegionsAddsUptoSaid : Prop := regionsAddsUptoRow.holds Try.pinned (OpenSpec.upto regionsAddsSpec)

/-- 'mortiselaw04.RegionsFinds', WHERE WHAT IT READS IS OF BULK AT MOST 1048576: true; the input reads as it did. -/
def regionsFindsUptoRow : OpenClaim := { program := "yteclomkhienhiaa", sum := "3c2f266df5cc45c4c2c0a1e779c53992ea95957de50fc79d2d056e37cd7048bd", func := "mortise/mortiselaw04.RegionsFinds", spec := "regionsFinds", inPlace := ["slices.overlaps[mortise/regions.part[int]]", "slices.overlaps[[]mortise/regions.part[int]]"], unfollowed := true, recurses := true, apart := false, narrowed := true }
def RegionsFindsUptoSaid : Prop := regionsFindsUptoRow.holds Try.pinned (OpenSpec.upto regionsFindsSpec)

/-- 'mortiselaw04.RegionsAll', WHERE WHAT IT READS IS OF BULK AT MOST 1048576: true; the input reads as it did. -/
def regionsAllUptoRow : OpenClaim := { program := "yteclomkhienhiaa", sum := "3c2f266df5cc45c4c2c0a1e779c53992ea95957de50fc79d2d056e37cd7048bd", func := "mortise/mortiselaw04.RegionsAll", spec := "regionsAll", inPlace := ["slices.overlaps[mortise/regions.part[int]]", "slices.overlaps[[]mortise/regions.part[int]]"], unfollowed := true, recurses := true, apart := false, narrowed := true }
def RegionsAllUptoSaid : Prop := regionsAllUptoRow.holds Try.pinned (OpenSpec.upto regionsAllSpec)

/-- 'mortiselaw04.RegionsTurned', WHERE WHAT IT READS IS OF BULK AT MOST 1048576: true; the input reads as it did. -/
def regionsTurnedUptoRow : OpenClaim := { program := "yteclomkhienhiaa", sum := "3c2f266df5cc45c4c2c0a1e779c53992ea95957de50fc79d2d056e37cd7048bd", func := "mortise/mortiselaw04.RegionsTurned", spec := "regionsTurned", inPlace := ["slices.overlaps[mortise/regions.part[mortise/api.Span]]", "slices.overlaps[[]mortise/regions.part[mortise/api.Span]]", "slices.overlaps[mortise/regions.part[int]]", "slices.overlaps[[]mortise/regions.part[int]]"], unfollowed := true, recurses := true, apart := false, narrowed := true }
def RegionsTurnedUptoSaid : Prop := regionsTurnedUptoRow.holds Try.pinned (OpenSpec.upto regionsTurnedSpec)

/-- 'mortiselaw04.RegionsBytes', WHERE WHAT IT READS IS OF BULK AT MOST 1048576: true; the input reads as it did. -/
def regionsBytesUptoRow : OpenClaim := { program := "yteclomkhienhiaa", sum := "3c2f266df5cc45c4c2c0a1e779c53992ea95957de50fc79d2d056e37cd7048bd", func := "mortise/mortiselaw04.RegionsBytes", spec := "regionsBytes", inPlace := ["slices.overlaps[mortise/regions.part[int]]", "slices.overlaps[[]mortise/regions.part[int]]"], unfollowed := true, recurses := true, apart := false, narrowed := true }
def RegionsBytesUptoSaid : Prop := regionsBytesUptoRow.holds Try.pinned (OpenSpec.upto regionsBytesSpec)

end Rows
end Go.Proofs.Yteclomkhienhiaa
