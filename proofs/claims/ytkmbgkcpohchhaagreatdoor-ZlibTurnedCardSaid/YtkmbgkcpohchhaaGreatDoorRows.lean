/-
  NARROWER THAN 'FOR EVERY INPUT', by the rows' own cells (each row's printed sentence says how): DeflateDynamic: laid · DeflateBack: laid · DeflateInflate: laid · ZlibZips: laid · ZlibBack: laid · ZlibTurned: laid.
  DERIVED. THE GIVEN ROWS OF THIS SEAT. 6 by the template 'for every input the law returns true; each argument reads behind the call as it read before'; 0 by the template 'total and deterministic' (their statements: YtkmbgkcpohchhaaGreatDoorTotals.lean).
  GIVEN WITH THE SEED: the statements are not yours to turn. If you find one false, say at which input.
  Laid BY PROGRAM, IN A SANDBOX (cutbox-rows.mjs): the forced cells as the released guide's own fill.sh prints them over the translation 2bf9c3e577bae38f… (all of the seat's roots in one cut). By AI agents, Wed Nov 11 2026. No macro, syntax, notation, axiom, sorry.
-/
import Derived.Test.YtkmbgkcpohchhaaGreatDoorChecked
import GoSem.Claim
import GoSem.ClaimJoined
import GoSem.ClaimMapViews
import Derived.JoinedTies
import Derived.KernelRfl
namespace Go.Proofs.YtkmbgkcpohchhaaGreatDoor
/- THE CELL 'sum', in the pinned program and in every row, IS THE sha256 OF THE DUMP (.gsa) THAT YtkmbgkcpohchhaaGreatDoorProg.lean LOADS. Nothing in Lean hashes anything: it is a label: what it is worth is what the hold of that sum in a sandbox is worth. -/
noncomputable def Tryz.pinned : Pinned := { name := "ytkmbgkcpohchhaagreatdoor", sum := "2bf9c3e577bae38fa502e4602d9eb06c8685b74c0c2d35e53bafce42545acbb9", checked := Tryz.checked }
namespace Rows
def none {H : Type} : Left H := { results := [], args := [] }

/- WHAT THE LISTED PACKAGE-LEVEL VARIABLES READ AS WHEN THE CALL BEGINS. Each datum BY PROGRAM (the guide's laid-datum.mjs) off the statement by which the dump's own 'gosem.cut.vars' lays the variable. In a bare row this is a premise. The card (YtkmbgkcpohchhaaGreatDoorCards.lean) ties it to the program's text. -/
def laid_mortise_deflate_order {H : Type} : DataW H := .agg [.lit (.int .i64 16), .lit (.int .i64 17), .lit (.int .i64 18), .lit (.int .i64 0), .lit (.int .i64 8), .lit (.int .i64 7), .lit (.int .i64 9), .lit (.int .i64 6), .lit (.int .i64 10), .lit (.int .i64 5), .lit (.int .i64 11), .lit (.int .i64 4), .lit (.int .i64 12), .lit (.int .i64 3), .lit (.int .i64 13), .lit (.int .i64 2), .lit (.int .i64 14), .lit (.int .i64 1), .lit (.int .i64 15)]
def laid_mortise_inflate_lengths {H : Type} : DataW H := .agg [.agg [.lit (.int .i64 3), .lit (.int .i64 0)], .agg [.lit (.int .i64 4), .lit (.int .i64 0)], .agg [.lit (.int .i64 5), .lit (.int .i64 0)], .agg [.lit (.int .i64 6), .lit (.int .i64 0)], .agg [.lit (.int .i64 7), .lit (.int .i64 0)], .agg [.lit (.int .i64 8), .lit (.int .i64 0)], .agg [.lit (.int .i64 9), .lit (.int .i64 0)], .agg [.lit (.int .i64 10), .lit (.int .i64 0)], .agg [.lit (.int .i64 11), .lit (.int .i64 1)], .agg [.lit (.int .i64 13), .lit (.int .i64 1)], .agg [.lit (.int .i64 15), .lit (.int .i64 1)], .agg [.lit (.int .i64 17), .lit (.int .i64 1)], .agg [.lit (.int .i64 19), .lit (.int .i64 2)], .agg [.lit (.int .i64 23), .lit (.int .i64 2)], .agg [.lit (.int .i64 27), .lit (.int .i64 2)], .agg [.lit (.int .i64 31), .lit (.int .i64 2)], .agg [.lit (.int .i64 35), .lit (.int .i64 3)], .agg [.lit (.int .i64 43), .lit (.int .i64 3)], .agg [.lit (.int .i64 51), .lit (.int .i64 3)], .agg [.lit (.int .i64 59), .lit (.int .i64 3)], .agg [.lit (.int .i64 67), .lit (.int .i64 4)], .agg [.lit (.int .i64 83), .lit (.int .i64 4)], .agg [.lit (.int .i64 99), .lit (.int .i64 4)], .agg [.lit (.int .i64 115), .lit (.int .i64 4)], .agg [.lit (.int .i64 131), .lit (.int .i64 5)], .agg [.lit (.int .i64 163), .lit (.int .i64 5)], .agg [.lit (.int .i64 195), .lit (.int .i64 5)], .agg [.lit (.int .i64 227), .lit (.int .i64 5)], .agg [.lit (.int .i64 258), .lit (.int .i64 0)]]
def laid_mortise_inflate_distances {H : Type} : DataW H := .agg [.agg [.lit (.int .i64 1), .lit (.int .i64 0)], .agg [.lit (.int .i64 2), .lit (.int .i64 0)], .agg [.lit (.int .i64 3), .lit (.int .i64 0)], .agg [.lit (.int .i64 4), .lit (.int .i64 0)], .agg [.lit (.int .i64 5), .lit (.int .i64 1)], .agg [.lit (.int .i64 7), .lit (.int .i64 1)], .agg [.lit (.int .i64 9), .lit (.int .i64 2)], .agg [.lit (.int .i64 13), .lit (.int .i64 2)], .agg [.lit (.int .i64 17), .lit (.int .i64 3)], .agg [.lit (.int .i64 25), .lit (.int .i64 3)], .agg [.lit (.int .i64 33), .lit (.int .i64 4)], .agg [.lit (.int .i64 49), .lit (.int .i64 4)], .agg [.lit (.int .i64 65), .lit (.int .i64 5)], .agg [.lit (.int .i64 97), .lit (.int .i64 5)], .agg [.lit (.int .i64 129), .lit (.int .i64 6)], .agg [.lit (.int .i64 193), .lit (.int .i64 6)], .agg [.lit (.int .i64 257), .lit (.int .i64 7)], .agg [.lit (.int .i64 385), .lit (.int .i64 7)], .agg [.lit (.int .i64 513), .lit (.int .i64 8)], .agg [.lit (.int .i64 769), .lit (.int .i64 8)], .agg [.lit (.int .i64 1025), .lit (.int .i64 9)], .agg [.lit (.int .i64 1537), .lit (.int .i64 9)], .agg [.lit (.int .i64 2049), .lit (.int .i64 10)], .agg [.lit (.int .i64 3073), .lit (.int .i64 10)], .agg [.lit (.int .i64 4097), .lit (.int .i64 11)], .agg [.lit (.int .i64 6145), .lit (.int .i64 11)], .agg [.lit (.int .i64 8193), .lit (.int .i64 12)], .agg [.lit (.int .i64 12289), .lit (.int .i64 12)], .agg [.lit (.int .i64 16385), .lit (.int .i64 13)], .agg [.lit (.int .i64 24577), .lit (.int .i64 13)]]
def laid_mortise_inflate_order {H : Type} : DataW H := .agg [.lit (.int .i64 16), .lit (.int .i64 17), .lit (.int .i64 18), .lit (.int .i64 0), .lit (.int .i64 8), .lit (.int .i64 7), .lit (.int .i64 9), .lit (.int .i64 6), .lit (.int .i64 10), .lit (.int .i64 5), .lit (.int .i64 11), .lit (.int .i64 4), .lit (.int .i64 12), .lit (.int .i64 3), .lit (.int .i64 13), .lit (.int .i64 2), .lit (.int .i64 14), .lit (.int .i64 1), .lit (.int .i64 15)]

/-- 'mortiselaw09.DeflateDynamic': WHATEVER THE INPUT: true; the input reads as it did. -/
def deflateDynamicSpec : ChangeSpec := { name := "deflateDynamic", fn := fun _ => fun
  | [d] => { results := [.lit (.bool true)], args := [d] }
  | _ => none }
def deflateDynamicRow : OpenClaim := { program := "ytkmbgkcpohchhaagreatdoor", sum := "2bf9c3e577bae38fa502e4602d9eb06c8685b74c0c2d35e53bafce42545acbb9", func := "mortise/mortiselaw09.DeflateDynamic", spec := "deflateDynamic", inPlace := ["internal/reflectlite.ValueOf", "internal/reflectlite.Swapper", "(internal/reflectlite.Value).Len"], unfollowed := true, recurses := true, named := ["mortise/deflate.order"], plainKeys := false, apart := false, laid := [("mortise/deflate.order", laid_mortise_deflate_order)] }
def DeflateDynamicSaid : Prop := deflateDynamicRow.holds Tryz.pinned (OpenSpec.ofChange deflateDynamicSpec)

/-- ITS FALSE NEIGHBOUR: 'it returns false'. Refute it at one input. -/
def deflateDynamicWrong : ChangeSpec := { name := "deflateDynamic", fn := fun _ => fun
  | [d] => { results := [.lit (.bool false)], args := [d] }
  | _ => none }
def DeflateDynamicWrongFalsely : Prop := deflateDynamicRow.holds Tryz.pinned (OpenSpec.ofChange deflateDynamicWrong)

/-- 'mortiselaw09.DeflateBack': WHATEVER THE INPUT: true; the input reads as it did. -/
def deflateBackSpec : ChangeSpec := { name := "deflateBack", fn := fun _ => fun
  | [d] => { results := [.lit (.bool true)], args := [d] }
  | _ => none }
def deflateBackRow : OpenClaim := { program := "ytkmbgkcpohchhaagreatdoor", sum := "2bf9c3e577bae38fa502e4602d9eb06c8685b74c0c2d35e53bafce42545acbb9", func := "mortise/mortiselaw09.DeflateBack", spec := "deflateBack", inPlace := ["internal/reflectlite.ValueOf", "internal/reflectlite.Swapper", "(internal/reflectlite.Value).Len"], unfollowed := true, recurses := true, named := ["mortise/deflate.order"], plainKeys := false, apart := false, laid := [("mortise/deflate.order", laid_mortise_deflate_order)] }
def DeflateBackSaid : Prop := deflateBackRow.holds Tryz.pinned (OpenSpec.ofChange deflateBackSpec)

/-- ITS FALSE NEIGHBOUR: 'it returns false'. Refute it at one input. -/
def deflateBackWrong : ChangeSpec := { name := "deflateBack", fn := fun _ => fun
  | [d] => { results := [.lit (.bool false)], args := [d] }
  | _ => none }
def DeflateBackWrongFalsely : Prop := deflateBackRow.holds Tryz.pinned (OpenSpec.ofChange deflateBackWrong)

/-- 'mortiselaw09.DeflateInflate': WHATEVER THE INPUT: true; the input reads as it did. -/
def deflateInflateSpec : ChangeSpec := { name := "deflateInflate", fn := fun _ => fun
  | [d] => { results := [.lit (.bool true)], args := [d] }
  | _ => none }
def deflateInflateRow : OpenClaim := { program := "ytkmbgkcpohchhaagreatdoor", sum := "2bf9c3e577bae38fa502e4602d9eb06c8685b74c0c2d35e53bafce42545acbb9", func := "mortise/mortiselaw09.DeflateInflate", spec := "deflateInflate", inPlace := ["internal/reflectlite.ValueOf", "internal/reflectlite.Swapper", "(internal/reflectlite.Value).Len"], unfollowed := true, recurses := true, named := ["mortise/deflate.order", "mortise/inflate.lengths", "mortise/inflate.distances", "mortise/inflate.order"], plainKeys := false, apart := false, laid := [("mortise/deflate.order", laid_mortise_deflate_order), ("mortise/inflate.lengths", laid_mortise_inflate_lengths), ("mortise/inflate.distances", laid_mortise_inflate_distances), ("mortise/inflate.order", laid_mortise_inflate_order)] }
def DeflateInflateSaid : Prop := deflateInflateRow.holds Tryz.pinned (OpenSpec.ofChange deflateInflateSpec)

/-- ITS FALSE NEIGHBOUR: 'it returns false'. Refute it at one input. -/
def deflateInflateWrong : ChangeSpec := { name := "deflateInflate", fn := fun _ => fun
  | [d] => { results := [.lit (.bool false)], args := [d] }
  | _ => none }
def DeflateInflateWrongFalsely : Prop := deflateInflateRow.holds Tryz.pinned (OpenSpec.ofChange deflateInflateWrong)

/-- 'mortiselaw10.ZlibZips': WHATEVER THE INPUT: true; the input reads as it did. -/
def zlibZipsSpec : ChangeSpec := { name := "zlibZips", fn := fun _ => fun
  | [d] => { results := [.lit (.bool true)], args := [d] }
  | _ => none }
def zlibZipsRow : OpenClaim := { program := "ytkmbgkcpohchhaagreatdoor", sum := "2bf9c3e577bae38fa502e4602d9eb06c8685b74c0c2d35e53bafce42545acbb9", func := "mortise/mortiselaw10.ZlibZips", spec := "zlibZips", inPlace := ["internal/reflectlite.ValueOf", "internal/reflectlite.Swapper", "(internal/reflectlite.Value).Len"], unfollowed := true, recurses := true, named := ["mortise/inflate.lengths", "mortise/inflate.distances", "mortise/inflate.order", "mortise/deflate.order"], plainKeys := false, apart := false, laid := [("mortise/deflate.order", laid_mortise_deflate_order), ("mortise/inflate.lengths", laid_mortise_inflate_lengths), ("mortise/inflate.distances", laid_mortise_inflate_distances), ("mortise/inflate.order", laid_mortise_inflate_order)] }
def ZlibZipsSaid : Prop := zlibZipsRow.holds Tryz.pinned (OpenSpec.ofChange zlibZipsSpec)

/-- ITS FALSE NEIGHBOUR: 'it returns false'. Refute it at one input. -/
def zlibZipsWrong : ChangeSpec := { name := "zlibZips", fn := fun _ => fun
  | [d] => { results := [.lit (.bool false)], args := [d] }
  | _ => none }
def ZlibZipsWrongFalsely : Prop := zlibZipsRow.holds Tryz.pinned (OpenSpec.ofChange zlibZipsWrong)

/-- 'mortiselaw10.ZlibBack': WHATEVER THE INPUT: true; the input reads as it did. -/
def zlibBackSpec : ChangeSpec := { name := "zlibBack", fn := fun _ => fun
  | [d1, d2] => { results := [.lit (.bool true)], args := [d1, d2] }
  | _ => none }
def zlibBackRow : OpenClaim := { program := "ytkmbgkcpohchhaagreatdoor", sum := "2bf9c3e577bae38fa502e4602d9eb06c8685b74c0c2d35e53bafce42545acbb9", func := "mortise/mortiselaw10.ZlibBack", spec := "zlibBack", inPlace := ["internal/reflectlite.ValueOf", "internal/reflectlite.Swapper", "(internal/reflectlite.Value).Len"], unfollowed := true, recurses := true, named := ["mortise/inflate.lengths", "mortise/inflate.distances", "mortise/inflate.order", "mortise/deflate.order"], plainKeys := false, apart := false, laid := [("mortise/deflate.order", laid_mortise_deflate_order), ("mortise/inflate.lengths", laid_mortise_inflate_lengths), ("mortise/inflate.distances", laid_mortise_inflate_distances), ("mortise/inflate.order", laid_mortise_inflate_order)] }
def ZlibBackSaid : Prop := zlibBackRow.holds Tryz.pinned (OpenSpec.ofChange zlibBackSpec)

/-- ITS FALSE NEIGHBOUR: 'it returns false'. Refute it at one input. -/
def zlibBackWrong : ChangeSpec := { name := "zlibBack", fn := fun _ => fun
  | [d1, d2] => { results := [.lit (.bool false)], args := [d1, d2] }
  | _ => none }
def ZlibBackWrongFalsely : Prop := zlibBackRow.holds Tryz.pinned (OpenSpec.ofChange zlibBackWrong)

/-- 'mortiselaw10.ZlibTurned': WHATEVER THE INPUT: true; the input reads as it did. -/
def zlibTurnedSpec : ChangeSpec := { name := "zlibTurned", fn := fun _ => fun
  | [d1, d2] => { results := [.lit (.bool true)], args := [d1, d2] }
  | _ => none }
def zlibTurnedRow : OpenClaim := { program := "ytkmbgkcpohchhaagreatdoor", sum := "2bf9c3e577bae38fa502e4602d9eb06c8685b74c0c2d35e53bafce42545acbb9", func := "mortise/mortiselaw10.ZlibTurned", spec := "zlibTurned", inPlace := ["internal/reflectlite.ValueOf", "internal/reflectlite.Swapper", "(internal/reflectlite.Value).Len"], unfollowed := true, recurses := true, named := ["mortise/inflate.lengths", "mortise/inflate.distances", "mortise/inflate.order", "mortise/deflate.order"], plainKeys := false, apart := false, laid := [("mortise/deflate.order", laid_mortise_deflate_order), ("mortise/inflate.lengths", laid_mortise_inflate_lengths), ("mortise/inflate.distances", laid_mortise_inflate_distances), ("mortise/inflate.order", laid_mortise_inflate_order)] }
def ZlibTurnedSaid : Prop := zlibTurnedRow.holds Tryz.pinned (OpenSpec.ofChange zlibTurnedSpec)

/-- ITS FALSE NEIGHBOUR: 'it returns false'. Refute it at one input. -/
def zlibTurnedWrong : ChangeSpec := { name := "zlibTurned", fn := fun _ => fun
  | [d1, d2] => { results := [.lit (.bool false)], args := [d1, d2] }
  | _ => none }
def ZlibTurnedWrongFalsely : Prop := zlibTurnedRow.holds Tryz.pinned (OpenSpec.ofChange zlibTurnedWrong)

/- THE SECOND FORM. 'bulk': how many values and letters a reading holds, each counted each time it is reached (what is shared counts as often as it is met; a slice's spare places count too). A statement '..UptoSaid' is the law's where the arguments, and the package variables that the reading takes, are together of bulk at most 1048576: NARROWER than '..Said'. Prove '..Said' where nothing that the law and all that it calls make is longer than what came in: it says more and counts as full. Else prove '..UptoSaid'. A law counts once. -/
mutual
def uptoBulk {H : Type} : DataW H → Nat
  | .lit (.string bytes) => bytes.length + 1
  | .lit _ => 1
  | .nil => 1
  | .ptr d => uptoBulk d + 1
  | .slice elems spare => uptoBulkAll elems + uptoBulkAll spare + 1
  | .agg parts => uptoBulkAll parts + 1
  | .iface _ d => uptoBulk d + 1
  | .map entries => uptoBulkEntries entries + 1
  | .held _ => 1
def uptoBulkAll {H : Type} : List (DataW H) → Nat
  | [] => 0
  | d :: r => uptoBulk d + uptoBulkAll r
def uptoBulkEntries {H : Type} : List (Lit × DataW H) → Nat
  | [] => 0
  | x :: r => uptoBulkEntry x + uptoBulkEntries r
def uptoBulkEntry {H : Type} : Lit × DataW H → Nat
  | (.string bytes, d) => bytes.length + uptoBulk d + 1
  | (_, d) => uptoBulk d + 1
 end
def uptoSmall : (H : Type) → List (DataW H) → Bool := fun _ ds => decide (uptoBulkAll ds ≤ 1048576)
def OpenSpec.upto (s : _root_.Go.ChangeSpec) : _root_.Go.OpenSpec := { _root_.Go.OpenSpec.ofChange s with cond := some uptoSmall }

/-- 'mortiselaw09.DeflateDynamic', WHERE WHAT IT READS IS OF BULK AT MOST 1048576: true; the input reads as it did. -/
def deflateDynamicUptoRow : OpenClaim := { program := "ytkmbgkcpohchhaagreatdoor", sum := "2bf9c3e577bae38fa502e4602d9eb06c8685b74c0c2d35e53bafce42545acbb9", func := "mortise/mortiselaw09.DeflateDynamic", spec := "deflateDynamic", inPlace := ["internal/reflectlite.ValueOf", "internal/reflectlite.Swapper", "(internal/reflectlite.Value).Len"], unfollowed := true, recurses := true, named := ["mortise/deflate.order"], plainKeys := false, apart := false, laid := [("mortise/deflate.order", laid_mortise_deflate_order)], narrowed := true }
def DeflateDynamicUptoSaid : Prop := deflateDynamicUptoRow.holds Tryz.pinned (OpenSpec.upto deflateDynamicSpec)

/-- 'mortiselaw09.DeflateBack', WHERE WHAT IT READS IS OF BULK AT MOST 1048576: true; the input reads as it did. -/
def deflateBackUptoRow : OpenClaim := { program := "ytkmbgkcpohchhaagreatdoor", sum := "2bf9c3e577bae38fa502e4602d9eb06c8685b74c0c2d35e53bafce42545acbb9", func := "mortise/mortiselaw09.DeflateBack", spec := "deflateBack", inPlace := ["internal/reflectlite.ValueOf", "internal/reflectlite.Swapper", "(internal/reflectlite.Value).Len"], unfollowed := true, recurses := true, named := ["mortise/deflate.order"], plainKeys := false, apart := false, laid := [("mortise/deflate.order", laid_mortise_deflate_order)], narrowed := true }
def DeflateBackUptoSaid : Prop := deflateBackUptoRow.holds Tryz.pinned (OpenSpec.upto deflateBackSpec)

/-- 'mortiselaw09.DeflateInflate', WHERE WHAT IT READS IS OF BULK AT MOST 1048576: true; the input reads as it did. -/
def deflateInflateUptoRow : OpenClaim := { program := "ytkmbgkcpohchhaagreatdoor", sum := "2bf9c3e577bae38fa502e4602d9eb06c8685b74c0c2d35e53bafce42545acbb9", func := "mortise/mortiselaw09.DeflateInflate", spec := "deflateInflate", inPlace := ["internal/reflectlite.ValueOf", "internal/reflectlite.Swapper", "(internal/reflectlite.Value).Len"], unfollowed := true, recurses := true, named := ["mortise/deflate.order", "mortise/inflate.lengths", "mortise/inflate.distances", "mortise/inflate.order"], plainKeys := false, apart := false, laid := [("mortise/deflate.order", laid_mortise_deflate_order), ("mortise/inflate.lengths", laid_mortise_inflate_lengths), ("mortise/inflate.distances", laid_mortise_inflate_distances), ("mortise/inflate.order", laid_mortise_inflate_order)], narrowed := true }
def DeflateInflateUptoSaid : Prop := deflateInflateUptoRow.holds Tryz.pinned (OpenSpec.upto deflateInflateSpec)

/-- 'mortiselaw10.ZlibZips', WHERE WHAT IT READS IS OF BULK AT MOST 1048576: true; the input reads as it did. -/
def zlibZipsUptoRow : OpenClaim := { program := "ytkmbgkcpohchhaagreatdoor", sum := "2bf9c3e577bae38fa502e4602d9eb06c8685b74c0c2d35e53bafce42545acbb9", func := "mortise/mortiselaw10.ZlibZips", spec := "zlibZips", inPlace := ["internal/reflectlite.ValueOf", "internal/reflectlite.Swapper", "(internal/reflectlite.Value).Len"], unfollowed := true, recurses := true, named := ["mortise/inflate.lengths", "mortise/inflate.distances", "mortise/inflate.order", "mortise/deflate.order"], plainKeys := false, apart := false, laid := [("mortise/deflate.order", laid_mortise_deflate_order), ("mortise/inflate.lengths", laid_mortise_inflate_lengths), ("mortise/inflate.distances", laid_mortise_inflate_distances), ("mortise/inflate.order", laid_mortise_inflate_order)], narrowed := true }
def ZlibZipsUptoSaid : Prop := zlibZipsUptoRow.holds Tryz.pinned (OpenSpec.upto zlibZipsSpec)

/-- 'mortiselaw10.ZlibBack', WHERE WHAT IT READS IS OF BULK AT MOST 1048576: true; the input reads as it did. -/
def zlibBackUptoRow : OpenClaim := { program := "ytkmbgkcpohchhaagreatdoor", sum := "2bf9c3e577bae38fa502e4602d9eb06c8685b74c0c2d35e53bafce42545acbb9", func := "mortise/mortiselaw10.ZlibBack", spec := "zlibBack", inPlace := ["internal/reflectlite.ValueOf", "internal/reflectlite.Swapper", "(internal/reflectlite.Value).Len"], unfollowed := true, recurses := true, named := ["mortise/inflate.lengths", "mortise/inflate.distances", "mortise/inflate.order", "mortise/deflate.order"], plainKeys := false, apart := false, laid := [("mortise/deflate.order", laid_mortise_deflate_order), ("mortise/inflate.lengths", laid_mortise_inflate_lengths), ("mortise/inflate.distances", laid_mortise_inflate_distances), ("mortise/inflate.order", laid_mortise_inflate_order)], narrowed := true }
def ZlibBackUptoSaid : Prop := zlibBackUptoRow.holds Tryz.pinned (OpenSpec.upto zlibBackSpec)

/-- 'mortiselaw10.ZlibTurned', WHERE WHAT IT READS IS OF BULK AT MOST 1048576: true; the input reads as it did. -/
def zlibTurnedUptoRow : OpenClaim := { program := "ytkmbgkcpohchhaagreatdoor", sum := "2bf9c3e577bae38fa502e4602d9eb06c8685b74c0c2d35e53bafce42545acbb9", func := "mortise/mortiselaw10.ZlibTurned", spec := "zlibTurned", inPlace := ["internal/reflectlite.ValueOf", "internal/reflectlite.Swapper", "(internal/reflectlite.Value).Len"], unfollowed := true, recurses := true, named := ["mortise/inflate.lengths", "mortise/inflate.distances", "mortise/inflate.order", "mortise/deflate.order"], plainKeys := false, apart := false, laid := [("mortise/deflate.order", laid_mortise_deflate_order), ("mortise/inflate.lengths", laid_mortise_inflate_lengths), ("mortise/inflate.distances", laid_mortise_inflate_distances), ("mortise/inflate.order", laid_mortise_inflate_order)], narrowed := true }
def ZlibTurnedUptoSaid : Prop := zlibTurnedUptoRow.holds Tryz.pinned (OpenSpec.upto zlibTurnedSpec)

end Rows
end Go.Proofs.YtkmbgkcpohchhaaGreatDoor
