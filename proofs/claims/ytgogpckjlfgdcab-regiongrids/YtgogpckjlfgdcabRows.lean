/-
  No cell of these rows narrows 'for every input' (looked for: loops, veiled, ifaces, maps, wideKeys, modest, calm, conditions, laid).
  DERIVED. THE GIVEN ROWS OF THIS SEAT. 2 by the template 'for every input the law returns true; each argument reads behind the call as it read before'; 0 by the template 'total and deterministic' (their statements: YtgogpckjlfgdcabTotals.lean).
  GIVEN WITH THE SEED: the statements are not yours to turn. If you find one false, say at which input.
  Laid BY PROGRAM, IN A SANDBOX (cutbox-rows.mjs): the forced cells as the released guide's own fill.sh prints them over the translation d07528d480393d29… (all of the seat's roots in one cut). By AI agents, Wed Nov 11 2026. No macro, syntax, notation, axiom, sorry.
-/
import Derived.Test.YtgogpckjlfgdcabChecked
import GoSem.Claim
import GoSem.ClaimJoined
import GoSem.ClaimMapViews
import Derived.JoinedTies
import Derived.KernelRfl
namespace Go.Proofs.Ytgogpckjlfgdcab
/- THE CELL 'sum', in the pinned program and in every row, IS THE sha256 OF THE DUMP (.gsa) THAT YtgogpckjlfgdcabProg.lean LOADS. Nothing in Lean hashes anything: it is a label: what it is worth is what the hold of that sum in a sandbox is worth. -/
noncomputable def Try.pinned : Pinned := { name := "ytgogpckjlfgdcab", sum := "d07528d480393d29afffe85fdacd3da2c59f155d07ac6a48e0ee34555a679c13", checked := Try.checked }
namespace Rows
def none {H : Type} : Left H := { results := [], args := [] }

/-- 'tableaulaw08.RegionGrids': WHATEVER THE INPUT: true; the input reads as it did. -/
def regionGridsSpec : ChangeSpec := { name := "regionGrids", fn := fun _ => fun
  | [d] => { results := [.lit (.bool true)], args := [d] }
  | _ => none }
def regionGridsRow : OpenClaim := { program := "ytgogpckjlfgdcab", sum := "d07528d480393d29afffe85fdacd3da2c59f155d07ac6a48e0ee34555a679c13", func := "tableau/tableaulaw08.RegionGrids", spec := "regionGrids", unfollowed := true, recurses := true, apart := false }
def RegionGridsSaid : Prop := regionGridsRow.holds Try.pinned (OpenSpec.ofChange regionGridsSpec)

/-- ITS FALSE NEIGHBOUR: 'it returns false'. Refute it at one input. -/
def regionGridsWrong : ChangeSpec := { name := "regionGrids", fn := fun _ => fun
  | [d] => { results := [.lit (.bool false)], args := [d] }
  | _ => none }
def RegionGridsWrongFalsely : Prop := regionGridsRow.holds Try.pinned (OpenSpec.ofChange regionGridsWrong)

/-- 'tableaulaw08.RegionOnes': WHATEVER THE INPUT: true; the input reads as it did. -/
def regionOnesSpec : ChangeSpec := { name := "regionOnes", fn := fun _ => fun
  | [] => { results := [.lit (.bool true)], args := [] }
  | _ => none }
def regionOnesRow : OpenClaim := { program := "ytgogpckjlfgdcab", sum := "d07528d480393d29afffe85fdacd3da2c59f155d07ac6a48e0ee34555a679c13", func := "tableau/tableaulaw08.RegionOnes", spec := "regionOnes", unfollowed := true, recurses := true, apart := false }
def RegionOnesSaid : Prop := regionOnesRow.holds Try.pinned (OpenSpec.ofChange regionOnesSpec)

/-- ITS FALSE NEIGHBOUR: 'it returns false'. Refute it at one input. -/
def regionOnesWrong : ChangeSpec := { name := "regionOnes", fn := fun _ => fun
  | [] => { results := [.lit (.bool false)], args := [] }
  | _ => none }
def RegionOnesWrongFalsely : Prop := regionOnesRow.holds Try.pinned (OpenSpec.ofChange regionOnesWrong)

/- THE SECOND FORM. 'bulk': how many values and letters a reading holds, each counted each time it is reached (what is shared counts as often as it is met; a slice's spare places count too). A statement '..UptoSaid' is the law's where the arguments, and the package variables that the reading takes, are together of bulk at most 1048576: NARROWER than '..Said'. Prove '..Said' where nothing that the law and all that it calls make is longer than what came in: it says more and counts as full. Else prove '..UptoSaid'. A law counts once. -/
mutual
def uptoBulk {H : Type} : DataW H → Nat
  | .lit (.string bytes) => bytes.length + 1
  | .lit _ => 1
  | .nil => 1
  | .ptr d => uptoBulk d + 1
  | .slice elems spare => uptoBulkAll elems + uptoBulkAll spare + 1
  | .agg parts => uptoBulkAll parts + 1
  | .iface _ d => uptoBulk d + 1
  | .map entries => uptoBulkEntries entries + 1
  | .held _ => 1
def uptoBulkAll {H : Type} : List (DataW H) → Nat
  | [] => 0
  | d :: r => uptoBulk d + uptoBulkAll r
def uptoBulkEntries {H : Type} : List (Lit × DataW H) → Nat
  | [] => 0
  | x :: r => uptoBulkEntry x + uptoBulkEntries r
def uptoBulkEntry {H : Type} : Lit × DataW H → Nat
  | (.string bytes, d) => bytes.length + uptoBulk d + 1
  | (_, d) => uptoBulk d + 1
 end
def uptoSmall : (H : Type) → List (DataW H) → Bool := fun _ ds => decide (uptoBulkAll ds ≤ 1048576)
def OpenSpec.upto (s : _root_.Go.ChangeSpec) : _root_.Go.OpenSpec := { _root_.Go.OpenSpec.ofChange s with cond := some uptoSmall }

/-- 'tableaulaw08.RegionGrids', WHERE WHAT IT READS IS OF BULK AT MOST 1048576: true; the input reads as it did. -/
def regionGridsUptoRow : OpenClaim := { program := "ytgogpckjlfgdcab", sum := "d07528d480393d29afffe85fdacd3da2c59f155d07ac6a48e0ee34555a679c13", func := "tableau/tableaulaw08.RegionGrids", spec := "regionGrids", unfollowed := true, recurses := true, apart := false, narrowed := true }
def RegionGridsUptoSaid : Prop := regionGridsUptoRow.holds Try.pinned (OpenSpec.upto regionGridsSpec)

/-- 'tableaulaw08.RegionOnes', WHERE WHAT IT READS IS OF BULK AT MOST 1048576: true; the input reads as it did. -/
def regionOnesUptoRow : OpenClaim := { program := "ytgogpckjlfgdcab", sum := "d07528d480393d29afffe85fdacd3da2c59f155d07ac6a48e0ee34555a679c13", func := "tableau/tableaulaw08.RegionOnes", spec := "regionOnes", unfollowed := true, recurses := true, apart := false, narrowed := true }
def RegionOnesUptoSaid : Prop := regionOnesUptoRow.holds Try.pinned (OpenSpec.upto regionOnesSpec)

end Rows
end Go.Proofs.Ytgogpckjlfgdcab
