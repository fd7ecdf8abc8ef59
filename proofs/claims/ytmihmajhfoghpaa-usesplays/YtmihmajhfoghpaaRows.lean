/-
  No cell of these rows narrows 'for every input' (looked for: loops, veiled, ifaces, maps, wideKeys, modest, calm, conditions, laid).
  DERIVED. THE GIVEN ROWS OF THIS SEAT. 3 by the template 'for every input the law returns true; each argument reads behind the call as it read before'; 0 by the template 'total and deterministic' (their statements: YtmihmajhfoghpaaTotals.lean).
  GIVEN WITH THE SEED: the statements are not yours to turn. If you find one false, say at which input.
  Laid BY PROGRAM, IN A SANDBOX (cutbox-rows.mjs): the forced cells as the released guide's own fill.sh prints them over the translation 8c049a0334cb3fd3… (all of the seat's roots in one cut). By AI agents, Wed Nov 11 2026. No macro, syntax, notation, axiom, sorry.
-/
import Derived.Test.YtmihmajhfoghpaaChecked
import GoSem.Claim
import GoSem.ClaimJoined
import GoSem.ClaimMapViews
import Derived.JoinedTies
import Derived.KernelRfl
namespace Go.Proofs.Ytmihmajhfoghpaa
/- THE CELL 'sum', in the pinned program and in every row, IS THE sha256 OF THE DUMP (.gsa) THAT YtmihmajhfoghpaaProg.lean LOADS. Nothing in Lean hashes anything: it is a label: what it is worth is what the hold of that sum in a sandbox is worth. -/
noncomputable def Try.pinned : Pinned := { name := "ytmihmajhfoghpaa", sum := "8c049a0334cb3fd353ecb6d0fd3fe2211f3728f98c1a5208f6a5a9e700ec90bb", checked := Try.checked }
namespace Rows
def none {H : Type} : Left H := { results := [], args := [] }

/-- 'tableaulaw12.UsesPlays': WHATEVER THE INPUT: true; the input reads as it did. -/
def usesPlaysSpec : ChangeSpec := { name := "usesPlays", fn := fun _ => fun
  | [d1, d2] => { results := [.lit (.bool true)], args := [d1, d2] }
  | _ => none }
def usesPlaysRow : OpenClaim := { program := "ytmihmajhfoghpaa", sum := "8c049a0334cb3fd353ecb6d0fd3fe2211f3728f98c1a5208f6a5a9e700ec90bb", func := "tableau/tableaulaw12.UsesPlays", spec := "usesPlays", unfollowed := true, recurses := true, apart := false }
def UsesPlaysSaid : Prop := usesPlaysRow.holds Try.pinned (OpenSpec.ofChange usesPlaysSpec)

/-- ITS FALSE NEIGHBOUR: 'it returns false'. Refute it at one input. -/
def usesPlaysWrong : ChangeSpec := { name := "usesPlays", fn := fun _ => fun
  | [d1, d2] => { results := [.lit (.bool false)], args := [d1, d2] }
  | _ => none }
def UsesPlaysWrongFalsely : Prop := usesPlaysRow.holds Try.pinned (OpenSpec.ofChange usesPlaysWrong)

/-- 'tableaulaw12.UsesTurns': WHATEVER THE INPUT: true; the input reads as it did. -/
def usesTurnsSpec : ChangeSpec := { name := "usesTurns", fn := fun _ => fun
  | [d1, d2, d3] => { results := [.lit (.bool true)], args := [d1, d2, d3] }
  | _ => none }
def usesTurnsRow : OpenClaim := { program := "ytmihmajhfoghpaa", sum := "8c049a0334cb3fd353ecb6d0fd3fe2211f3728f98c1a5208f6a5a9e700ec90bb", func := "tableau/tableaulaw12.UsesTurns", spec := "usesTurns", unfollowed := true, recurses := true, apart := false }
def UsesTurnsSaid : Prop := usesTurnsRow.holds Try.pinned (OpenSpec.ofChange usesTurnsSpec)

/-- ITS FALSE NEIGHBOUR: 'it returns false'. Refute it at one input. -/
def usesTurnsWrong : ChangeSpec := { name := "usesTurns", fn := fun _ => fun
  | [d1, d2, d3] => { results := [.lit (.bool false)], args := [d1, d2, d3] }
  | _ => none }
def UsesTurnsWrongFalsely : Prop := usesTurnsRow.holds Try.pinned (OpenSpec.ofChange usesTurnsWrong)

/-- 'tableaulaw12.UsesNone': WHATEVER THE INPUT: true; the input reads as it did. -/
def usesNoneSpec : ChangeSpec := { name := "usesNone", fn := fun _ => fun
  | [d] => { results := [.lit (.bool true)], args := [d] }
  | _ => none }
def usesNoneRow : OpenClaim := { program := "ytmihmajhfoghpaa", sum := "8c049a0334cb3fd353ecb6d0fd3fe2211f3728f98c1a5208f6a5a9e700ec90bb", func := "tableau/tableaulaw12.UsesNone", spec := "usesNone", unfollowed := true, recurses := true, apart := false }
def UsesNoneSaid : Prop := usesNoneRow.holds Try.pinned (OpenSpec.ofChange usesNoneSpec)

/-- ITS FALSE NEIGHBOUR: 'it returns false'. Refute it at one input. -/
def usesNoneWrong : ChangeSpec := { name := "usesNone", fn := fun _ => fun
  | [d] => { results := [.lit (.bool false)], args := [d] }
  | _ => none }
def UsesNoneWrongFalsely : Prop := usesNoneRow.holds Try.pinned (OpenSpec.ofChange usesNoneWrong)

/- THE SECOND FORM. 'bulk': how many values and letters a reading holds, each counted each time it is reached (what is shared counts as often as it is met; a slice's spare places count too). A statement '..UptoSaid' is the law's where the arguments, and the package variables that the reading takes, are together of bulk at most 1048576: NARROWER than '..Said'. Prove '..Said' where nothing that the law and all that it calls make is longer than what came in: it says more and counts as full. Else prove '..UptoSaid'. A law counts once. -/
mutual
def uptoBulk {H : Type} : DataW H → Nat
  | .lit (.string bytes) => bytes.length + 1
  | .lit _ => 1
  | .nil => 1
  | .ptr d => uptoBulk d + 1
  | .slice elems spare => uptoBulkAll elems + uptoBulkAll spare + 1
  | .agg parts => uptoBulkAll parts + 1
  | .iface _ d => uptoBulk d + 1
  | .map entries => uptoBulkEntries entries + 1
  | .held _ => 1
def uptoBulkAll {H : Type} : List (DataW H) → Nat
  | [] => 0
  | d :: r => uptoBulk d + uptoBulkAll r
def uptoBulkEntries {H : Type} : List (Lit × DataW H) → Nat
  | [] => 0
  | x :: r => uptoBulkEntry x + uptoBulkEntries r
def uptoBulkEntry {H : Type} : Lit × DataW H → Nat
  | (.string bytes, d) => bytes.length + uptoBulk d + 1
  | (_, d) => uptoBulk d + 1
 end
def uptoSmall : (H : Type) → List (DataW H) → Bool := fun _ ds => decide (uptoBulkAll ds ≤ 1048576)
def OpenSpec.upto (s : _root_.Go.ChangeSpec) : _root_.Go.OpenSpec := { _root_.Go.OpenSpec.ofChange s with cond := some uptoSmall }

/-- 'tableaulaw12.UsesPlays', WHERE WHAT IT READS IS OF BULK AT MOST 1048576: true; the input reads as it did. -/
def usesPlaysUptoRow : OpenClaim := { program := "ytmihmajhfoghpaa", sum := "8c049a0334cb3fd353ecb6d0fd3fe2211f3728f98c1a5208f6a5a9e700ec90bb", func := "tableau/tableaulaw12.UsesPlays", spec := "usesPlays", unfollowed := true, recurses := true, apart := false, narrowed := true }
def UsesPlaysUptoSaid : Prop := usesPlaysUptoRow.holds Try.pinned (OpenSpec.upto usesPlaysSpec)

/-- 'tableaulaw12.UsesTurns', WHERE WHAT IT READS IS OF BULK AT MOST 1048576: true; the input reads as it did. -/
def usesTurnsUptoRow : OpenClaim := { program := "ytmihmajhfoghpaa", sum := "8c049a0334cb3fd353ecb6d0fd3fe2211f3728f98c1a5208f6a5a9e700ec90bb", func := "tableau/tableaulaw12.UsesTurns", spec := "usesTurns", unfollowed := true, recurses := true, apart := false, narrowed := true }
def UsesTurnsUptoSaid : Prop := usesTurnsUptoRow.holds Try.pinned (OpenSpec.upto usesTurnsSpec)

/-- 'tableaulaw12.UsesNone', WHERE WHAT IT READS IS OF BULK AT MOST 1048576: true; the input reads as it did. -/
def usesNoneUptoRow : OpenClaim := { program := "ytmihmajhfoghpaa", sum := "8c049a0334cb3fd353ecb6d0fd3fe2211f3728f98c1a5208f6a5a9e700ec90bb", func := "tableau/tableaulaw12.UsesNone", spec := "usesNone", unfollowed := true, recurses := true, apart := false, narrowed := true }
def UsesNoneUptoSaid : Prop := usesNoneUptoRow.holds Try.pinned (OpenSpec.upto usesNoneSpec)

end Rows
end Go.Proofs.Ytmihmajhfoghpaa
