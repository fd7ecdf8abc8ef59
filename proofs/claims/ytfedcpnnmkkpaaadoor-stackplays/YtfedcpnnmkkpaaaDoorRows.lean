/-
  NARROWER THAN 'FOR EVERY INPUT', by the rows' own cells (each row's printed sentence says how): StackPlays: laid · StackRounds: laid · StackDrops: laid.
  DERIVED. THE GIVEN ROWS OF THIS SEAT. 3 by the template 'for every input the law returns true; each argument reads behind the call as it read before'; 0 by the template 'total and deterministic' (their statements: YtfedcpnnmkkpaaaDoorTotals.lean).
  GIVEN WITH THE SEED: the statements are not yours to turn. If you find one false, say at which input.
  Laid BY PROGRAM, IN A SANDBOX (cutbox-rows.mjs): the forced cells as the released guide's own fill.sh prints them over the translation eb47dfedeb6bbcda… (all of the seat's roots in one cut). By AI agents, Wed Nov 11 2026. No macro, syntax, notation, axiom, sorry.
-/
import Derived.Test.YtfedcpnnmkkpaaaDoorChecked
import GoSem.Claim
import GoSem.ClaimJoined
import GoSem.ClaimMapViews
import Derived.JoinedTies
import Derived.KernelRfl
namespace Go.Proofs.YtfedcpnnmkkpaaaDoor
/- THE CELL 'sum', in the pinned program and in every row, IS THE sha256 OF THE DUMP (.gsa) THAT YtfedcpnnmkkpaaaDoorProg.lean LOADS. Nothing in Lean hashes anything: it is a label: what it is worth is what the hold of that sum in a sandbox is worth. -/
noncomputable def Tryd.pinned : Pinned := { name := "ytfedcpnnmkkpaaadoor", sum := "eb47dfedeb6bbcdaf1a857bdfdfd731b77f95550a6c650c3cf8fe9dad63e0aa0", checked := Tryd.checked }
namespace Rows
def none {H : Type} : Left H := { results := [], args := [] }

/- WHAT THE LISTED PACKAGE-LEVEL VARIABLES READ AS WHEN THE CALL BEGINS. Each datum BY PROGRAM (the guide's laid-datum.mjs) off the statement by which the dump's own 'gosem.cut.vars' lays the variable. In a bare row this is a premise. The card (YtfedcpnnmkkpaaaDoorCards.lean) ties it to the program's text. -/
def laid_tableau_api_ErrPlace {H : Type} : DataW H := .iface "*errors.errorString" (.ptr (.agg [.lit (.string [112, 108, 97, 99, 101])]))

/-- 'tableaulaw19.StackPlays': WHATEVER THE INPUT: true; the input reads as it did. -/
def stackPlaysSpec : ChangeSpec := { name := "stackPlays", fn := fun _ => fun
  | [d1, d2] => { results := [.lit (.bool true)], args := [d1, d2] }
  | _ => none }
def stackPlaysRow : OpenClaim := { program := "ytfedcpnnmkkpaaadoor", sum := "eb47dfedeb6bbcdaf1a857bdfdfd731b77f95550a6c650c3cf8fe9dad63e0aa0", func := "tableau/tableaulaw19.StackPlays", spec := "stackPlays", inPlace := ["internal/reflectlite.TypeOf"], unfollowed := true, recurses := true, named := ["tableau/api.ErrPlace"], apart := false, laid := [("tableau/api.ErrPlace", laid_tableau_api_ErrPlace)] }
def StackPlaysSaid : Prop := stackPlaysRow.holds Tryd.pinned (OpenSpec.ofChange stackPlaysSpec)

/-- ITS FALSE NEIGHBOUR: 'it returns false'. Refute it at one input. -/
def stackPlaysWrong : ChangeSpec := { name := "stackPlays", fn := fun _ => fun
  | [d1, d2] => { results := [.lit (.bool false)], args := [d1, d2] }
  | _ => none }
def StackPlaysWrongFalsely : Prop := stackPlaysRow.holds Tryd.pinned (OpenSpec.ofChange stackPlaysWrong)

/-- 'tableaulaw19.StackRounds': WHATEVER THE INPUT: true; the input reads as it did. -/
def stackRoundsSpec : ChangeSpec := { name := "stackRounds", fn := fun _ => fun
  | [d] => { results := [.lit (.bool true)], args := [d] }
  | _ => none }
def stackRoundsRow : OpenClaim := { program := "ytfedcpnnmkkpaaadoor", sum := "eb47dfedeb6bbcdaf1a857bdfdfd731b77f95550a6c650c3cf8fe9dad63e0aa0", func := "tableau/tableaulaw19.StackRounds", spec := "stackRounds", inPlace := ["internal/reflectlite.TypeOf"], unfollowed := true, recurses := true, named := ["tableau/api.ErrPlace"], apart := false, laid := [("tableau/api.ErrPlace", laid_tableau_api_ErrPlace)] }
def StackRoundsSaid : Prop := stackRoundsRow.holds Tryd.pinned (OpenSpec.ofChange stackRoundsSpec)

/-- ITS FALSE NEIGHBOUR: 'it returns false'. Refute it at one input. -/
def stackRoundsWrong : ChangeSpec := { name := "stackRounds", fn := fun _ => fun
  | [d] => { results := [.lit (.bool false)], args := [d] }
  | _ => none }
def StackRoundsWrongFalsely : Prop := stackRoundsRow.holds Tryd.pinned (OpenSpec.ofChange stackRoundsWrong)

/-- 'tableaulaw19.StackDrops': WHATEVER THE INPUT: true; the input reads as it did. -/
def stackDropsSpec : ChangeSpec := { name := "stackDrops", fn := fun _ => fun
  | [d1, d2] => { results := [.lit (.bool true)], args := [d1, d2] }
  | _ => none }
def stackDropsRow : OpenClaim := { program := "ytfedcpnnmkkpaaadoor", sum := "eb47dfedeb6bbcdaf1a857bdfdfd731b77f95550a6c650c3cf8fe9dad63e0aa0", func := "tableau/tableaulaw19.StackDrops", spec := "stackDrops", inPlace := ["internal/reflectlite.TypeOf"], unfollowed := true, recurses := true, named := ["tableau/api.ErrPlace"], apart := false, laid := [("tableau/api.ErrPlace", laid_tableau_api_ErrPlace)] }
def StackDropsSaid : Prop := stackDropsRow.holds Tryd.pinned (OpenSpec.ofChange stackDropsSpec)

/-- ITS FALSE NEIGHBOUR: 'it returns false'. Refute it at one input. -/
def stackDropsWrong : ChangeSpec := { name := "stackDrops", fn := fun _ => fun
  | [d1, d2] => { results := [.lit (.bool false)], args := [d1, d2] }
  | _ => none }
def StackDropsWrongFalsely : Prop := stackDropsRow.holds Tryd.pinned (OpenSpec.ofChange stackDropsWrong)

/- THE SECOND FORM. 'bulk': how many values and letters a reading holds, each counted each time it is reached (what is shared counts as often as it is met; a slice's spare places count too). A statement '..UptoSaid' is the law's where the arguments, and the package variables that the reading takes, are together of bulk at most 1048576: NARROWER than '..Said'. Prove '..Said' where nothing that the law and all that it calls make is longer than what came in: it says more and counts as full. Else prove '..UptoSaid'. A law counts once. -/
mutual
def uptoBulk {H : Type} : DataW H → Nat
  | .lit (.string bytes) => bytes.length + 1
  | .lit _ => 1
  | .nil => 1
  | .ptr d => uptoBulk d + 1
  | .slice elems spare => uptoBulkAll elems + uptoBulkAll spare + 1
  | .agg parts => uptoBulkAll parts + 1
  | .iface _ d => uptoBulk d + 1
  | .map entries => uptoBulkEntries entries + 1
  | .held _ => 1
def uptoBulkAll {H : Type} : List (DataW H) → Nat
  | [] => 0
  | d :: r => uptoBulk d + uptoBulkAll r
def uptoBulkEntries {H : Type} : List (Lit × DataW H) → Nat
  | [] => 0
  | x :: r => uptoBulkEntry x + uptoBulkEntries r
def uptoBulkEntry {H : Type} : Lit × DataW H → Nat
  | (.string bytes, d) => bytes.length + uptoBulk d + 1
  | (_, d) => uptoBulk d + 1
 end
def uptoSmall : (H : Type) → List (DataW H) → Bool := fun _ ds => decide (uptoBulkAll ds ≤ 1048576)
def OpenSpec.upto (s : _root_.Go.ChangeSpec) : _root_.Go.OpenSpec := { _root_.Go.OpenSpec.ofChange s with cond := some uptoSmall }

/-- 'tableaulaw19.StackPlays', WHERE WHAT IT READS IS OF BULK AT MOST 1048576: true; the input reads as it did. -/
def stackPlaysUptoRow : OpenClaim := { program := "ytfedcpnnmkkpaaadoor", sum := "eb47dfedeb6bbcdaf1a857bdfdfd731b77f95550a6c650c3cf8fe9dad63e0aa0", func := "tableau/tableaulaw19.StackPlays", spec := "stackPlays", inPlace := ["internal/reflectlite.TypeOf"], unfollowed := true, recurses := true, named := ["tableau/api.ErrPlace"], apart := false, laid := [("tableau/api.ErrPlace", laid_tableau_api_ErrPlace)], narrowed := true }
def StackPlaysUptoSaid : Prop := stackPlaysUptoRow.holds Tryd.pinned (OpenSpec.upto stackPlaysSpec)

/-- 'tableaulaw19.StackRounds', WHERE WHAT IT READS IS OF BULK AT MOST 1048576: true; the input reads as it did. -/
def stackRoundsUptoRow : OpenClaim := { program := "ytfedcpnnmkkpaaadoor", sum := "eb47dfedeb6bbcdaf1a857bdfdfd731b77f95550a6c650c3cf8fe9dad63e0aa0", func := "tableau/tableaulaw19.StackRounds", spec := "stackRounds", inPlace := ["internal/reflectlite.TypeOf"], unfollowed := true, recurses := true, named := ["tableau/api.ErrPlace"], apart := false, laid := [("tableau/api.ErrPlace", laid_tableau_api_ErrPlace)], narrowed := true }
def StackRoundsUptoSaid : Prop := stackRoundsUptoRow.holds Tryd.pinned (OpenSpec.upto stackRoundsSpec)

/-- 'tableaulaw19.StackDrops', WHERE WHAT IT READS IS OF BULK AT MOST 1048576: true; the input reads as it did. -/
def stackDropsUptoRow : OpenClaim := { program := "ytfedcpnnmkkpaaadoor", sum := "eb47dfedeb6bbcdaf1a857bdfdfd731b77f95550a6c650c3cf8fe9dad63e0aa0", func := "tableau/tableaulaw19.StackDrops", spec := "stackDrops", inPlace := ["internal/reflectlite.TypeOf"], unfollowed := true, recurses := true, named := ["tableau/api.ErrPlace"], apart := false, laid := [("tableau/api.ErrPlace", laid_tableau_api_ErrPlace)], narrowed := true }
def StackDropsUptoSaid : Prop := stackDropsUptoRow.holds Tryd.pinned (OpenSpec.upto stackDropsSpec)

end Rows
end Go.Proofs.YtfedcpnnmkkpaaaDoor
