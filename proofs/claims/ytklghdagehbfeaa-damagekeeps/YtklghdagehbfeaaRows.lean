/-
  No cell of these rows narrows 'for every input' (looked for: loops, veiled, ifaces, maps, wideKeys, modest, calm, conditions, laid).
  DERIVED. THE GIVEN ROWS OF THIS SEAT. 4 by the template 'for every input the law returns true; each argument reads behind the call as it read before'; 0 by the template 'total and deterministic' (their statements: YtklghdagehbfeaaTotals.lean).
  GIVEN WITH THE SEED: the statements are not yours to turn. If you find one false, say at which input.
  Laid BY PROGRAM, IN A SANDBOX (cutbox-rows.mjs): the forced cells as the released guide's own fill.sh prints them over the translation 3beefd09f700931e… (all of the seat's roots in one cut). By AI agents, Wed Nov 11 2026. No macro, syntax, notation, axiom, sorry.
-/
import Derived.Test.YtklghdagehbfeaaChecked
import GoSem.Claim
import GoSem.ClaimJoined
import GoSem.ClaimMapViews
import Derived.JoinedTies
import Derived.KernelRfl
namespace Go.Proofs.Ytklghdagehbfeaa
/- THE CELL 'sum', in the pinned program and in every row, IS THE sha256 OF THE DUMP (.gsa) THAT YtklghdagehbfeaaProg.lean LOADS. Nothing in Lean hashes anything: it is a label: what it is worth is what the hold of that sum in a sandbox is worth. -/
noncomputable def Try.pinned : Pinned := { name := "ytklghdagehbfeaa", sum := "3beefd09f700931eae50bc0a9872ec9524bab3969f8685f284f17ea27f31063d", checked := Try.checked }
namespace Rows
def none {H : Type} : Left H := { results := [], args := [] }

/-- 'tableaulaw09.DamageAll': WHATEVER THE INPUT: true; the input reads as it did. -/
def damageAllSpec : ChangeSpec := { name := "damageAll", fn := fun _ => fun
  | [d1, d2, d3, d4] => { results := [.lit (.bool true)], args := [d1, d2, d3, d4] }
  | _ => none }
def damageAllRow : OpenClaim := { program := "ytklghdagehbfeaa", sum := "3beefd09f700931eae50bc0a9872ec9524bab3969f8685f284f17ea27f31063d", func := "tableau/tableaulaw09.DamageAll", spec := "damageAll", unfollowed := true, recurses := true, apart := false }
def DamageAllSaid : Prop := damageAllRow.holds Try.pinned (OpenSpec.ofChange damageAllSpec)

/-- ITS FALSE NEIGHBOUR: 'it returns false'. Refute it at one input. -/
def damageAllWrong : ChangeSpec := { name := "damageAll", fn := fun _ => fun
  | [d1, d2, d3, d4] => { results := [.lit (.bool false)], args := [d1, d2, d3, d4] }
  | _ => none }
def DamageAllWrongFalsely : Prop := damageAllRow.holds Try.pinned (OpenSpec.ofChange damageAllWrong)

/-- 'tableaulaw09.DamageKeeps': WHATEVER THE INPUT: true; the input reads as it did. -/
def damageKeepsSpec : ChangeSpec := { name := "damageKeeps", fn := fun _ => fun
  | [d1, d2, d3, d4] => { results := [.lit (.bool true)], args := [d1, d2, d3, d4] }
  | _ => none }
def damageKeepsRow : OpenClaim := { program := "ytklghdagehbfeaa", sum := "3beefd09f700931eae50bc0a9872ec9524bab3969f8685f284f17ea27f31063d", func := "tableau/tableaulaw09.DamageKeeps", spec := "damageKeeps", unfollowed := true, recurses := true, apart := false }
def DamageKeepsSaid : Prop := damageKeepsRow.holds Try.pinned (OpenSpec.ofChange damageKeepsSpec)

/-- ITS FALSE NEIGHBOUR: 'it returns false'. Refute it at one input. -/
def damageKeepsWrong : ChangeSpec := { name := "damageKeeps", fn := fun _ => fun
  | [d1, d2, d3, d4] => { results := [.lit (.bool false)], args := [d1, d2, d3, d4] }
  | _ => none }
def DamageKeepsWrongFalsely : Prop := damageKeepsRow.holds Try.pinned (OpenSpec.ofChange damageKeepsWrong)

/-- 'tableaulaw09.DamageMany': WHATEVER THE INPUT: true; the input reads as it did. -/
def damageManySpec : ChangeSpec := { name := "damageMany", fn := fun _ => fun
  | [d] => { results := [.lit (.bool true)], args := [d] }
  | _ => none }
def damageManyRow : OpenClaim := { program := "ytklghdagehbfeaa", sum := "3beefd09f700931eae50bc0a9872ec9524bab3969f8685f284f17ea27f31063d", func := "tableau/tableaulaw09.DamageMany", spec := "damageMany", unfollowed := true, recurses := true, apart := false }
def DamageManySaid : Prop := damageManyRow.holds Try.pinned (OpenSpec.ofChange damageManySpec)

/-- ITS FALSE NEIGHBOUR: 'it returns false'. Refute it at one input. -/
def damageManyWrong : ChangeSpec := { name := "damageMany", fn := fun _ => fun
  | [d] => { results := [.lit (.bool false)], args := [d] }
  | _ => none }
def DamageManyWrongFalsely : Prop := damageManyRow.holds Try.pinned (OpenSpec.ofChange damageManyWrong)

/-- 'tableaulaw09.DamageOrders': WHATEVER THE INPUT: true; the input reads as it did. -/
def damageOrdersSpec : ChangeSpec := { name := "damageOrders", fn := fun _ => fun
  | [d1, d2] => { results := [.lit (.bool true)], args := [d1, d2] }
  | _ => none }
def damageOrdersRow : OpenClaim := { program := "ytklghdagehbfeaa", sum := "3beefd09f700931eae50bc0a9872ec9524bab3969f8685f284f17ea27f31063d", func := "tableau/tableaulaw09.DamageOrders", spec := "damageOrders", unfollowed := true, recurses := true, apart := false }
def DamageOrdersSaid : Prop := damageOrdersRow.holds Try.pinned (OpenSpec.ofChange damageOrdersSpec)

/-- ITS FALSE NEIGHBOUR: 'it returns false'. Refute it at one input. -/
def damageOrdersWrong : ChangeSpec := { name := "damageOrders", fn := fun _ => fun
  | [d1, d2] => { results := [.lit (.bool false)], args := [d1, d2] }
  | _ => none }
def DamageOrdersWrongFalsely : Prop := damageOrdersRow.holds Try.pinned (OpenSpec.ofChange damageOrdersWrong)

/- THE SECOND FORM. 'bulk': how many values and letters a reading holds, each counted each time it is reached (what is shared counts as often as it is met; a slice's spare places count too). A statement '..UptoSaid' is the law's where the arguments, and the package variables that the reading takes, are together of bulk at most 1048576: NARROWER than '..Said'. Prove '..Said' where nothing that the law and all that it calls make is longer than what came in: it says more and counts as full. Else prove '..UptoSaid'. A law counts once. -/
mutual
def uptoBulk {H : Type} : DataW H → Nat
  | .lit (.string bytes) => bytes.length + 1
  | .lit _ => 1
  | .nil => 1
  | .ptr d => uptoBulk d + 1
  | .slice elems spare => uptoBulkAll elems + uptoBulkAll spare + 1
  | .agg parts => uptoBulkAll parts + 1
  | .iface _ d => uptoBulk d + 1
  | .map entries => uptoBulkEntries entries + 1
  | .held _ => 1
def uptoBulkAll {H : Type} : List (DataW H) → Nat
  | [] => 0
  | d :: r => uptoBulk d + uptoBulkAll r
def uptoBulkEntries {H : Type} : List (Lit × DataW H) → Nat
  | [] => 0
  | x :: r => uptoBulkEntry x + uptoBulkEntries r
def uptoBulkEntry {H : Type} : Lit × DataW H → Nat
  | (.string bytes, d) => bytes.length + uptoBulk d + 1
  | (_, d) => uptoBulk d + 1
 end
def uptoSmall : (H : Type) → List (DataW H) → Bool := fun _ ds => decide (uptoBulkAll ds ≤ 1048576)
def OpenSpec.upto (s : _root_.Go.ChangeSpec) : _root_.Go.OpenSpec := { _root_.Go.OpenSpec.ofChange s with cond := some uptoSmall }

/-- 'tableaulaw09.DamageAll', WHERE WHAT IT READS IS OF BULK AT MOST 1048576: true; the input reads as it did. -/
def damageAllUptoRow : OpenClaim := { program := "ytklghdagehbfeaa", sum := "3beefd09f700931eae50bc0a9872ec9524bab3969f8685f284f17ea27f31063d", func := "tableau/tableaulaw09.DamageAll", spec := "damageAll", unfollowed := true, recurses := true, apart := false, narrowed := true }
def DamageAllUptoSaid : Prop := damageAllUptoRow.holds Try.pinned (OpenSpec.upto damageAllSpec)

/-- 'tableaulaw09.DamageKeeps', WHERE WHAT IT READS IS OF BULK AT MOST 1048576: true; the input reads as it did. -/
def damageKeepsUptoRow : OpenClaim := { program := "ytklghdagehbfeaa", sum := "3beefd09f700931eae50bc0a9872ec9524bab3969f8685f284f17ea27f31063d", func := "tableau/tableaulaw09.DamageKeeps", spec := "damageKeeps", unfollowed := true, recurses := true, apart := false, narrowed := true }
def DamageKeepsUptoSaid : Prop := damageKeepsUptoRow.holds Try.pinned (OpenSpec.upto damageKeepsSpec)

/-- 'tableaulaw09.DamageMany', WHERE WHAT IT READS IS OF BULK AT MOST 1048576: true; the input reads as it did. -/
def damageManyUptoRow : OpenClaim := { program := "ytklghdagehbfeaa", sum := "3beefd09f700931eae50bc0a9872ec9524bab3969f8685f284f17ea27f31063d", func := "tableau/tableaulaw09.DamageMany", spec := "damageMany", unfollowed := true, recurses := true, apart := false, narrowed := true }
def DamageManyUptoSaid : Prop := damageManyUptoRow.holds Try.pinned (OpenSpec.upto damageManySpec)

/-- 'tableaulaw09.DamageOrders', WHERE WHAT IT READS IS OF BULK AT MOST 1048576: true; the input reads as it did. -/
def damageOrdersUptoRow : OpenClaim := { program := "ytklghdagehbfeaa", sum := "3beefd09f700931eae50bc0a9872ec9524bab3969f8685f284f17ea27f31063d", func := "tableau/tableaulaw09.DamageOrders", spec := "damageOrders", unfollowed := true, recurses := true, apart := false, narrowed := true }
def DamageOrdersUptoSaid : Prop := damageOrdersUptoRow.holds Try.pinned (OpenSpec.upto damageOrdersSpec)

end Rows
end Go.Proofs.Ytklghdagehbfeaa
