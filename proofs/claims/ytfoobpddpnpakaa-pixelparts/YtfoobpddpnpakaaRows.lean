/-
  No cell of these rows narrows 'for every input' (looked for: loops, veiled, ifaces, maps, wideKeys, modest, calm, conditions, laid).
  DERIVED. THE GIVEN ROWS OF THIS SEAT. 6 by the template 'for every input the law returns true; each argument reads behind the call as it read before'; 0 by the template 'total and deterministic' (their statements: YtfoobpddpnpakaaTotals.lean).
  GIVEN WITH THE SEED: the statements are not yours to turn. If you find one false, say at which input.
  Laid BY PROGRAM, IN A SANDBOX (cutbox-rows.mjs): the forced cells as the released guide's own fill.sh prints them over the translation 204fb1ca99664aaa… (all of the seat's roots in one cut). By AI agents, Wed Nov 11 2026. No macro, syntax, notation, axiom, sorry.
-/
import Derived.Test.YtfoobpddpnpakaaChecked
import GoSem.Claim
import GoSem.ClaimJoined
import GoSem.ClaimMapViews
import Derived.JoinedTies
import Derived.KernelRfl
namespace Go.Proofs.Ytfoobpddpnpakaa
/- THE CELL 'sum', in the pinned program and in every row, IS THE sha256 OF THE DUMP (.gsa) THAT YtfoobpddpnpakaaProg.lean LOADS. Nothing in Lean hashes anything: it is a label: what it is worth is what the hold of that sum in a sandbox is worth. -/
noncomputable def Try.pinned : Pinned := { name := "ytfoobpddpnpakaa", sum := "204fb1ca99664aaab82a9edcd09567a6e5f83158aecc22e1597958c9f17bfec3", checked := Try.checked }
namespace Rows
def none {H : Type} : Left H := { results := [], args := [] }

/-- 'tableaulaw13.PixelAll': WHATEVER THE INPUT: true; the input reads as it did. -/
def pixelAllSpec : ChangeSpec := { name := "pixelAll", fn := fun _ => fun
  | [d1, d2, d3, d4, d5, d6] => { results := [.lit (.bool true)], args := [d1, d2, d3, d4, d5, d6] }
  | _ => none }
def pixelAllRow : OpenClaim := { program := "ytfoobpddpnpakaa", sum := "204fb1ca99664aaab82a9edcd09567a6e5f83158aecc22e1597958c9f17bfec3", func := "tableau/tableaulaw13.PixelAll", spec := "pixelAll", apart := false }
def PixelAllSaid : Prop := pixelAllRow.holds Try.pinned (OpenSpec.ofChange pixelAllSpec)

/-- ITS FALSE NEIGHBOUR: 'it returns false'. Refute it at one input. -/
def pixelAllWrong : ChangeSpec := { name := "pixelAll", fn := fun _ => fun
  | [d1, d2, d3, d4, d5, d6] => { results := [.lit (.bool false)], args := [d1, d2, d3, d4, d5, d6] }
  | _ => none }
def PixelAllWrongFalsely : Prop := pixelAllRow.holds Try.pinned (OpenSpec.ofChange pixelAllWrong)

/-- 'tableaulaw13.PixelOvers': WHATEVER THE INPUT: true; the input reads as it did. -/
def pixelOversSpec : ChangeSpec := { name := "pixelOvers", fn := fun _ => fun
  | [d1, d2] => { results := [.lit (.bool true)], args := [d1, d2] }
  | _ => none }
def pixelOversRow : OpenClaim := { program := "ytfoobpddpnpakaa", sum := "204fb1ca99664aaab82a9edcd09567a6e5f83158aecc22e1597958c9f17bfec3", func := "tableau/tableaulaw13.PixelOvers", spec := "pixelOvers", apart := false }
def PixelOversSaid : Prop := pixelOversRow.holds Try.pinned (OpenSpec.ofChange pixelOversSpec)

/-- ITS FALSE NEIGHBOUR: 'it returns false'. Refute it at one input. -/
def pixelOversWrong : ChangeSpec := { name := "pixelOvers", fn := fun _ => fun
  | [d1, d2] => { results := [.lit (.bool false)], args := [d1, d2] }
  | _ => none }
def PixelOversWrongFalsely : Prop := pixelOversRow.holds Try.pinned (OpenSpec.ofChange pixelOversWrong)

/-- 'tableaulaw13.PixelScales': WHATEVER THE INPUT: true; the input reads as it did. -/
def pixelScalesSpec : ChangeSpec := { name := "pixelScales", fn := fun _ => fun
  | [d1, d2, d3] => { results := [.lit (.bool true)], args := [d1, d2, d3] }
  | _ => none }
def pixelScalesRow : OpenClaim := { program := "ytfoobpddpnpakaa", sum := "204fb1ca99664aaab82a9edcd09567a6e5f83158aecc22e1597958c9f17bfec3", func := "tableau/tableaulaw13.PixelScales", spec := "pixelScales", apart := false }
def PixelScalesSaid : Prop := pixelScalesRow.holds Try.pinned (OpenSpec.ofChange pixelScalesSpec)

/-- ITS FALSE NEIGHBOUR: 'it returns false'. Refute it at one input. -/
def pixelScalesWrong : ChangeSpec := { name := "pixelScales", fn := fun _ => fun
  | [d1, d2, d3] => { results := [.lit (.bool false)], args := [d1, d2, d3] }
  | _ => none }
def PixelScalesWrongFalsely : Prop := pixelScalesRow.holds Try.pinned (OpenSpec.ofChange pixelScalesWrong)

/-- 'tableaulaw13.PixelBounds': WHATEVER THE INPUT: true; the input reads as it did. -/
def pixelBoundsSpec : ChangeSpec := { name := "pixelBounds", fn := fun _ => fun
  | [d1, d2] => { results := [.lit (.bool true)], args := [d1, d2] }
  | _ => none }
def pixelBoundsRow : OpenClaim := { program := "ytfoobpddpnpakaa", sum := "204fb1ca99664aaab82a9edcd09567a6e5f83158aecc22e1597958c9f17bfec3", func := "tableau/tableaulaw13.PixelBounds", spec := "pixelBounds", apart := false }
def PixelBoundsSaid : Prop := pixelBoundsRow.holds Try.pinned (OpenSpec.ofChange pixelBoundsSpec)

/-- ITS FALSE NEIGHBOUR: 'it returns false'. Refute it at one input. -/
def pixelBoundsWrong : ChangeSpec := { name := "pixelBounds", fn := fun _ => fun
  | [d1, d2] => { results := [.lit (.bool false)], args := [d1, d2] }
  | _ => none }
def PixelBoundsWrongFalsely : Prop := pixelBoundsRow.holds Try.pinned (OpenSpec.ofChange pixelBoundsWrong)

/-- 'tableaulaw13.PixelParts': WHATEVER THE INPUT: true; the input reads as it did. -/
def pixelPartsSpec : ChangeSpec := { name := "pixelParts", fn := fun _ => fun
  | [d1, d2] => { results := [.lit (.bool true)], args := [d1, d2] }
  | _ => none }
def pixelPartsRow : OpenClaim := { program := "ytfoobpddpnpakaa", sum := "204fb1ca99664aaab82a9edcd09567a6e5f83158aecc22e1597958c9f17bfec3", func := "tableau/tableaulaw13.PixelParts", spec := "pixelParts", apart := false }
def PixelPartsSaid : Prop := pixelPartsRow.holds Try.pinned (OpenSpec.ofChange pixelPartsSpec)

/-- ITS FALSE NEIGHBOUR: 'it returns false'. Refute it at one input. -/
def pixelPartsWrong : ChangeSpec := { name := "pixelParts", fn := fun _ => fun
  | [d1, d2] => { results := [.lit (.bool false)], args := [d1, d2] }
  | _ => none }
def PixelPartsWrongFalsely : Prop := pixelPartsRow.holds Try.pinned (OpenSpec.ofChange pixelPartsWrong)

/-- 'tableaulaw13.PixelThree': WHATEVER THE INPUT: true; the input reads as it did. -/
def pixelThreeSpec : ChangeSpec := { name := "pixelThree", fn := fun _ => fun
  | [d1, d2, d3, d4] => { results := [.lit (.bool true)], args := [d1, d2, d3, d4] }
  | _ => none }
def pixelThreeRow : OpenClaim := { program := "ytfoobpddpnpakaa", sum := "204fb1ca99664aaab82a9edcd09567a6e5f83158aecc22e1597958c9f17bfec3", func := "tableau/tableaulaw13.PixelThree", spec := "pixelThree", apart := false }
def PixelThreeSaid : Prop := pixelThreeRow.holds Try.pinned (OpenSpec.ofChange pixelThreeSpec)

/-- ITS FALSE NEIGHBOUR: 'it returns false'. Refute it at one input. -/
def pixelThreeWrong : ChangeSpec := { name := "pixelThree", fn := fun _ => fun
  | [d1, d2, d3, d4] => { results := [.lit (.bool false)], args := [d1, d2, d3, d4] }
  | _ => none }
def PixelThreeWrongFalsely : Prop := pixelThreeRow.holds Try.pinned (OpenSpec.ofChange pixelThreeWrong)

/- THE SECOND FORM. 'bulk': how many values and letters a reading holds, each counted each time it is reached (what is shared counts as often as it is met; a slice's spare places count too). A statement '..UptoSaid' is the law's where the arguments, and the package variables that the reading takes, are together of bulk at most 1048576: NARROWER than '..Said'. Prove '..Said' where nothing that the law and all that it calls make is longer than what came in: it says more and counts as full. Else prove '..UptoSaid'. A law counts once. -/
mutual
def uptoBulk {H : Type} : DataW H → Nat
  | .lit (.string bytes) => bytes.length + 1
  | .lit _ => 1
  | .nil => 1
  | .ptr d => uptoBulk d + 1
  | .slice elems spare => uptoBulkAll elems + uptoBulkAll spare + 1
  | .agg parts => uptoBulkAll parts + 1
  | .iface _ d => uptoBulk d + 1
  | .map entries => uptoBulkEntries entries + 1
  | .held _ => 1
def uptoBulkAll {H : Type} : List (DataW H) → Nat
  | [] => 0
  | d :: r => uptoBulk d + uptoBulkAll r
def uptoBulkEntries {H : Type} : List (Lit × DataW H) → Nat
  | [] => 0
  | x :: r => uptoBulkEntry x + uptoBulkEntries r
def uptoBulkEntry {H : Type} : Lit × DataW H → Nat
  | (.string bytes, d) => bytes.length + uptoBulk d + 1
  | (_, d) => uptoBulk d + 1
 end
def uptoSmall : (H : Type) → List (DataW H) → Bool := fun _ ds => decide (uptoBulkAll ds ≤ 1048576)
def OpenSpec.upto (s : _root_.Go.ChangeSpec) : _root_.Go.OpenSpec := { _root_.Go.OpenSpec.ofChange s with cond := some uptoSmall }

/-- 'tableaulaw13.PixelAll', WHERE WHAT IT READS IS OF BULK AT MOST 1048576: true; the input reads as it did. -/
def pixelAllUptoRow : OpenClaim := { program := "ytfoobpddpnpakaa", sum := "204fb1ca99664aaab82a9edcd09567a6e5f83158aecc22e1597958c9f17bfec3", func := "tableau/tableaulaw13.PixelAll", spec := "pixelAll", apart := false, narrowed := true }
def PixelAllUptoSaid : Prop := pixelAllUptoRow.holds Try.pinned (OpenSpec.upto pixelAllSpec)

/-- 'tableaulaw13.PixelOvers', WHERE WHAT IT READS IS OF BULK AT MOST 1048576: true; the input reads as it did. -/
def pixelOversUptoRow : OpenClaim := { program := "ytfoobpddpnpakaa", sum := "204fb1ca99664aaab82a9edcd09567a6e5f83158aecc22e1597958c9f17bfec3", func := "tableau/tableaulaw13.PixelOvers", spec := "pixelOvers", apart := false, narrowed := true }
def PixelOversUptoSaid : Prop := pixelOversUptoRow.holds Try.pinned (OpenSpec.upto pixelOversSpec)

/-- 'tableaulaw13.PixelScales', WHERE WHAT IT READS IS OF BULK AT MOST 1048576: true; the input reads as it did. -/
def pixelScalesUptoRow : OpenClaim := { program := "ytfoobpddpnpakaa", sum := "204fb1ca99664aaab82a9edcd09567a6e5f83158aecc22e1597958c9f17bfec3", func := "tableau/tableaulaw13.PixelScales", spec := "pixelScales", apart := false, narrowed := true }
def PixelScalesUptoSaid : Prop := pixelScalesUptoRow.holds Try.pinned (OpenSpec.upto pixelScalesSpec)

/-- 'tableaulaw13.PixelBounds', WHERE WHAT IT READS IS OF BULK AT MOST 1048576: true; the input reads as it did. -/
def pixelBoundsUptoRow : OpenClaim := { program := "ytfoobpddpnpakaa", sum := "204fb1ca99664aaab82a9edcd09567a6e5f83158aecc22e1597958c9f17bfec3", func := "tableau/tableaulaw13.PixelBounds", spec := "pixelBounds", apart := false, narrowed := true }
def PixelBoundsUptoSaid : Prop := pixelBoundsUptoRow.holds Try.pinned (OpenSpec.upto pixelBoundsSpec)

/-- 'tableaulaw13.PixelParts', WHERE WHAT IT READS IS OF BULK AT MOST 1048576: true; the input reads as it did. -/
def pixelPartsUptoRow : OpenClaim := { program := "ytfoobpddpnpakaa", sum := "204fb1ca99664aaab82a9edcd09567a6e5f83158aecc22e1597958c9f17bfec3", func := "tableau/tableaulaw13.PixelParts", spec := "pixelParts", apart := false, narrowed := true }
def PixelPartsUptoSaid : Prop := pixelPartsUptoRow.holds Try.pinned (OpenSpec.upto pixelPartsSpec)

/-- 'tableaulaw13.PixelThree', WHERE WHAT IT READS IS OF BULK AT MOST 1048576: true; the input reads as it did. -/
def pixelThreeUptoRow : OpenClaim := { program := "ytfoobpddpnpakaa", sum := "204fb1ca99664aaab82a9edcd09567a6e5f83158aecc22e1597958c9f17bfec3", func := "tableau/tableaulaw13.PixelThree", spec := "pixelThree", apart := false, narrowed := true }
def PixelThreeUptoSaid : Prop := pixelThreeUptoRow.holds Try.pinned (OpenSpec.upto pixelThreeSpec)

end Rows
end Go.Proofs.Ytfoobpddpnpakaa
