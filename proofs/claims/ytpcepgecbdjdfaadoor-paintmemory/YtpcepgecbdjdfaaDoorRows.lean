/-
  NARROWER THAN 'FOR EVERY INPUT', by the rows' own cells (each row's printed sentence says how): PaintLoads: laid · PaintPlays: laid · PaintFolds: laid · PaintLater: laid · PaintMemory: laid.
  DERIVED. THE GIVEN ROWS OF THIS SEAT. 5 by the template 'for every input the law returns true; each argument reads behind the call as it read before'; 0 by the template 'total and deterministic' (their statements: YtpcepgecbdjdfaaDoorTotals.lean).
  GIVEN WITH THE SEED: the statements are not yours to turn. If you find one false, say at which input.
  Laid BY PROGRAM, IN A SANDBOX (cutbox-rows.mjs): the forced cells as the released guide's own fill.sh prints them over the translation f4dfc20f1d427d85… (all of the seat's roots in one cut). By AI agents, Wed Nov 11 2026. No macro, syntax, notation, axiom, sorry.
-/
import Derived.Test.YtpcepgecbdjdfaaDoorChecked
import GoSem.Claim
import GoSem.ClaimJoined
import GoSem.ClaimMapViews
import Derived.JoinedTies
import Derived.KernelRfl
namespace Go.Proofs.YtpcepgecbdjdfaaDoor
/- THE CELL 'sum', in the pinned program and in every row, IS THE sha256 OF THE DUMP (.gsa) THAT YtpcepgecbdjdfaaDoorProg.lean LOADS. Nothing in Lean hashes anything: it is a label: what it is worth is what the hold of that sum in a sandbox is worth. -/
noncomputable def Tryd.pinned : Pinned := { name := "ytpcepgecbdjdfaadoor", sum := "f4dfc20f1d427d8594d53d52679d17cfefecefc68d3ad8871d226707da7959f6", checked := Tryd.checked }
namespace Rows
def none {H : Type} : Left H := { results := [], args := [] }

/- WHAT THE LISTED PACKAGE-LEVEL VARIABLES READ AS WHEN THE CALL BEGINS. Each datum BY PROGRAM (the guide's laid-datum.mjs) off the statement by which the dump's own 'gosem.cut.vars' lays the variable. In a bare row this is a premise. The card (YtpcepgecbdjdfaaDoorCards.lean) ties it to the program's text. -/
def laid_tableau_api_ErrArg {H : Type} : DataW H := .iface "*errors.errorString" (.ptr (.agg [.lit (.string [97, 114, 103, 117, 109, 101, 110, 116])]))
def laid_tableau_api_ErrFormat {H : Type} : DataW H := .iface "*errors.errorString" (.ptr (.agg [.lit (.string [102, 111, 114, 109, 97, 116])]))
def laid_tableau_api_ErrStride {H : Type} : DataW H := .iface "*errors.errorString" (.ptr (.agg [.lit (.string [115, 116, 114, 105, 100, 101])]))
def laid_tableau_api_ErrFile {H : Type} : DataW H := .iface "*errors.errorString" (.ptr (.agg [.lit (.string [102, 105, 108, 101])]))

/-- 'tableaulaw23.PaintLoads': WHATEVER THE INPUT: true; the input reads as it did. -/
def paintLoadsSpec : ChangeSpec := { name := "paintLoads", fn := fun _ => fun
  | [d1, d2, d3, d4, d5, d6, d7] => { results := [.lit (.bool true)], args := [d1, d2, d3, d4, d5, d6, d7] }
  | _ => none }
def paintLoadsRow : OpenClaim := { program := "ytpcepgecbdjdfaadoor", sum := "f4dfc20f1d427d8594d53d52679d17cfefecefc68d3ad8871d226707da7959f6", func := "tableau/tableaulaw23.PaintLoads", spec := "paintLoads", unfollowed := true, recurses := true, named := ["tableau/api.ErrArg", "tableau/api.ErrFile", "tableau/api.ErrStride", "tableau/api.ErrFormat"], apart := false, laid := [("tableau/api.ErrArg", laid_tableau_api_ErrArg), ("tableau/api.ErrFormat", laid_tableau_api_ErrFormat), ("tableau/api.ErrStride", laid_tableau_api_ErrStride), ("tableau/api.ErrFile", laid_tableau_api_ErrFile)] }
def PaintLoadsSaid : Prop := paintLoadsRow.holds Tryd.pinned (OpenSpec.ofChange paintLoadsSpec)

/-- ITS FALSE NEIGHBOUR: 'it returns false'. Refute it at one input. -/
def paintLoadsWrong : ChangeSpec := { name := "paintLoads", fn := fun _ => fun
  | [d1, d2, d3, d4, d5, d6, d7] => { results := [.lit (.bool false)], args := [d1, d2, d3, d4, d5, d6, d7] }
  | _ => none }
def PaintLoadsWrongFalsely : Prop := paintLoadsRow.holds Tryd.pinned (OpenSpec.ofChange paintLoadsWrong)

/-- 'tableaulaw23.PaintPlays': WHATEVER THE INPUT: true; the input reads as it did. -/
def paintPlaysSpec : ChangeSpec := { name := "paintPlays", fn := fun _ => fun
  | [d1, d2, d3, d4, d5] => { results := [.lit (.bool true)], args := [d1, d2, d3, d4, d5] }
  | _ => none }
def paintPlaysRow : OpenClaim := { program := "ytpcepgecbdjdfaadoor", sum := "f4dfc20f1d427d8594d53d52679d17cfefecefc68d3ad8871d226707da7959f6", func := "tableau/tableaulaw23.PaintPlays", spec := "paintPlays", unfollowed := true, recurses := true, named := ["tableau/api.ErrArg"], apart := false, laid := [("tableau/api.ErrArg", laid_tableau_api_ErrArg)] }
def PaintPlaysSaid : Prop := paintPlaysRow.holds Tryd.pinned (OpenSpec.ofChange paintPlaysSpec)

/-- ITS FALSE NEIGHBOUR: 'it returns false'. Refute it at one input. -/
def paintPlaysWrong : ChangeSpec := { name := "paintPlays", fn := fun _ => fun
  | [d1, d2, d3, d4, d5] => { results := [.lit (.bool false)], args := [d1, d2, d3, d4, d5] }
  | _ => none }
def PaintPlaysWrongFalsely : Prop := paintPlaysRow.holds Tryd.pinned (OpenSpec.ofChange paintPlaysWrong)

/-- 'tableaulaw23.PaintFolds': WHATEVER THE INPUT: true; the input reads as it did. -/
def paintFoldsSpec : ChangeSpec := { name := "paintFolds", fn := fun _ => fun
  | [d1, d2, d3, d4, d5, d6, d7] => { results := [.lit (.bool true)], args := [d1, d2, d3, d4, d5, d6, d7] }
  | _ => none }
def paintFoldsRow : OpenClaim := { program := "ytpcepgecbdjdfaadoor", sum := "f4dfc20f1d427d8594d53d52679d17cfefecefc68d3ad8871d226707da7959f6", func := "tableau/tableaulaw23.PaintFolds", spec := "paintFolds", unfollowed := true, recurses := true, named := ["tableau/api.ErrArg"], apart := false, laid := [("tableau/api.ErrArg", laid_tableau_api_ErrArg)] }
def PaintFoldsSaid : Prop := paintFoldsRow.holds Tryd.pinned (OpenSpec.ofChange paintFoldsSpec)

/-- ITS FALSE NEIGHBOUR: 'it returns false'. Refute it at one input. -/
def paintFoldsWrong : ChangeSpec := { name := "paintFolds", fn := fun _ => fun
  | [d1, d2, d3, d4, d5, d6, d7] => { results := [.lit (.bool false)], args := [d1, d2, d3, d4, d5, d6, d7] }
  | _ => none }
def PaintFoldsWrongFalsely : Prop := paintFoldsRow.holds Tryd.pinned (OpenSpec.ofChange paintFoldsWrong)

/-- 'tableaulaw23.PaintLater': WHATEVER THE INPUT: true; the input reads as it did. -/
def paintLaterSpec : ChangeSpec := { name := "paintLater", fn := fun _ => fun
  | [d1, d2, d3, d4] => { results := [.lit (.bool true)], args := [d1, d2, d3, d4] }
  | _ => none }
def paintLaterRow : OpenClaim := { program := "ytpcepgecbdjdfaadoor", sum := "f4dfc20f1d427d8594d53d52679d17cfefecefc68d3ad8871d226707da7959f6", func := "tableau/tableaulaw23.PaintLater", spec := "paintLater", unfollowed := true, recurses := true, named := ["tableau/api.ErrArg"], apart := false, laid := [("tableau/api.ErrArg", laid_tableau_api_ErrArg)] }
def PaintLaterSaid : Prop := paintLaterRow.holds Tryd.pinned (OpenSpec.ofChange paintLaterSpec)

/-- ITS FALSE NEIGHBOUR: 'it returns false'. Refute it at one input. -/
def paintLaterWrong : ChangeSpec := { name := "paintLater", fn := fun _ => fun
  | [d1, d2, d3, d4] => { results := [.lit (.bool false)], args := [d1, d2, d3, d4] }
  | _ => none }
def PaintLaterWrongFalsely : Prop := paintLaterRow.holds Tryd.pinned (OpenSpec.ofChange paintLaterWrong)

/-- 'tableaulaw23.PaintMemory': WHATEVER THE INPUT: true; the input reads as it did. -/
def paintMemorySpec : ChangeSpec := { name := "paintMemory", fn := fun _ => fun
  | [d1, d2, d3, d4, d5] => { results := [.lit (.bool true)], args := [d1, d2, d3, d4, d5] }
  | _ => none }
def paintMemoryRow : OpenClaim := { program := "ytpcepgecbdjdfaadoor", sum := "f4dfc20f1d427d8594d53d52679d17cfefecefc68d3ad8871d226707da7959f6", func := "tableau/tableaulaw23.PaintMemory", spec := "paintMemory", unfollowed := true, recurses := true, named := ["tableau/api.ErrArg", "tableau/api.ErrFile", "tableau/api.ErrStride", "tableau/api.ErrFormat"], apart := false, laid := [("tableau/api.ErrArg", laid_tableau_api_ErrArg), ("tableau/api.ErrFormat", laid_tableau_api_ErrFormat), ("tableau/api.ErrStride", laid_tableau_api_ErrStride), ("tableau/api.ErrFile", laid_tableau_api_ErrFile)] }
def PaintMemorySaid : Prop := paintMemoryRow.holds Tryd.pinned (OpenSpec.ofChange paintMemorySpec)

/-- ITS FALSE NEIGHBOUR: 'it returns false'. Refute it at one input. -/
def paintMemoryWrong : ChangeSpec := { name := "paintMemory", fn := fun _ => fun
  | [d1, d2, d3, d4, d5] => { results := [.lit (.bool false)], args := [d1, d2, d3, d4, d5] }
  | _ => none }
def PaintMemoryWrongFalsely : Prop := paintMemoryRow.holds Tryd.pinned (OpenSpec.ofChange paintMemoryWrong)

/- THE SECOND FORM. 'bulk': how many values and letters a reading holds, each counted each time it is reached (what is shared counts as often as it is met; a slice's spare places count too). A statement '..UptoSaid' is the law's where the arguments, and the package variables that the reading takes, are together of bulk at most 1048576: NARROWER than '..Said'. Prove '..Said' where nothing that the law and all that it calls make is longer than what came in: it says more and counts as full. Else prove '..UptoSaid'. A law counts once. -/
mutual
def uptoBulk {H : Type} : DataW H → Nat
  | .lit (.string bytes) => bytes.length + 1
  | .lit _ => 1
  | .nil => 1
  | .ptr d => uptoBulk d + 1
  | .slice elems spare => uptoBulkAll elems + uptoBulkAll spare + 1
  | .agg parts => uptoBulkAll parts + 1
  | .iface _ d => uptoBulk d + 1
  | .map entries => uptoBulkEntries entries + 1
  | .held _ => 1
def uptoBulkAll {H : Type} : List (DataW H) → Nat
  | [] => 0
  | d :: r => uptoBulk d + uptoBulkAll r
def uptoBulkEntries {H : Type} : List (Lit × DataW H) → Nat
  | [] => 0
  | x :: r => uptoBulkEntry x + uptoBulkEntries r
def uptoBulkEntry {H : Type} : Lit × DataW H → Nat
  | (.string bytes, d) => bytes.length + uptoBulk d + 1
  | (_, d) => uptoBulk d + 1
 end
def uptoSmall : (H : Type) → List (DataW H) → Bool := fun _ ds => decide (uptoBulkAll ds ≤ 1048576)
def OpenSpec.upto (s : _root_.Go.ChangeSpec) : _root_.Go.OpenSpec := { _root_.Go.OpenSpec.ofChange s with cond := some uptoSmall }

/-- 'tableaulaw23.PaintLoads', WHERE WHAT IT READS IS OF BULK AT MOST 1048576: true; the input reads as it did. -/
def paintLoadsUptoRow : OpenClaim := { program := "ytpcepgecbdjdfaadoor", sum := "f4dfc20f1d427d8594d53d52679d17cfefecefc68d3ad8871d226707da7959f6", func := "tableau/tableaulaw23.PaintLoads", spec := "paintLoads", unfollowed := true, recurses := true, named := ["tableau/api.ErrArg", "tableau/api.ErrFile", "tableau/api.ErrStride", "tableau/api.ErrFormat"], apart := false, laid := [("tableau/api.ErrArg", laid_tableau_api_ErrArg), ("tableau/api.ErrFormat", laid_tableau_api_ErrFormat), ("tableau/api.ErrStride", laid_tableau_api_ErrStride), ("tableau/api.ErrFile", laid_tableau_api_ErrFile)], narrowed := true }
def PaintLoadsUptoSaid : Prop := paintLoadsUptoRow.holds Tryd.pinned (OpenSpec.upto paintLoadsSpec)

/-- 'tableaulaw23.PaintPlays', WHERE WHAT IT READS IS OF BULK AT MOST 1048576: true; the input reads as it did. -/
def paintPlaysUptoRow : OpenClaim := { program := "ytpcepgecbdjdfaadoor", sum := "f4dfc20f1d427d8594d53d52679d17cfefecefc68d3ad8871d226707da7959f6", func := "tableau/tableaulaw23.PaintPlays", spec := "paintPlays", unfollowed := true, recurses := true, named := ["tableau/api.ErrArg"], apart := false, laid := [("tableau/api.ErrArg", laid_tableau_api_ErrArg)], narrowed := true }
def PaintPlaysUptoSaid : Prop := paintPlaysUptoRow.holds Tryd.pinned (OpenSpec.upto paintPlaysSpec)

/-- 'tableaulaw23.PaintFolds', WHERE WHAT IT READS IS OF BULK AT MOST 1048576: true; the input reads as it did. -/
def paintFoldsUptoRow : OpenClaim := { program := "ytpcepgecbdjdfaadoor", sum := "f4dfc20f1d427d8594d53d52679d17cfefecefc68d3ad8871d226707da7959f6", func := "tableau/tableaulaw23.PaintFolds", spec := "paintFolds", unfollowed := true, recurses := true, named := ["tableau/api.ErrArg"], apart := false, laid := [("tableau/api.ErrArg", laid_tableau_api_ErrArg)], narrowed := true }
def PaintFoldsUptoSaid : Prop := paintFoldsUptoRow.holds Tryd.pinned (OpenSpec.upto paintFoldsSpec)

/-- 'tableaulaw23.PaintLater', WHERE WHAT IT READS IS OF BULK AT MOST 1048576: true; the input reads as it did. -/
def paintLaterUptoRow : OpenClaim := { program := "ytpcepgecbdjdfaadoor", sum := "f4dfc20f1d427d8594d53d52679d17cfefecefc68d3ad8871d226707da7959f6", func := "tableau/tableaulaw23.PaintLater", spec := "paintLater", unfollowed := true, recurses := true, named := ["tableau/api.ErrArg"], apart := false, laid := [("tableau/api.ErrArg", laid_tableau_api_ErrArg)], narrowed := true }
def PaintLaterUptoSaid : Prop := paintLaterUptoRow.holds Tryd.pinned (OpenSpec.upto paintLaterSpec)

/-- 'tableaulaw23.PaintMemory', WHERE WHAT IT READS IS OF BULK AT MOST 1048576: true; the input reads as it did. -/
def paintMemoryUptoRow : OpenClaim := { program := "ytpcepgecbdjdfaadoor", sum := "f4dfc20f1d427d8594d53d52679d17cfefecefc68d3ad8871d226707da7959f6", func := "tableau/tableaulaw23.PaintMemory", spec := "paintMemory", unfollowed := true, recurses := true, named := ["tableau/api.ErrArg", "tableau/api.ErrFile", "tableau/api.ErrStride", "tableau/api.ErrFormat"], apart := false, laid := [("tableau/api.ErrArg", laid_tableau_api_ErrArg), ("tableau/api.ErrFormat", laid_tableau_api_ErrFormat), ("tableau/api.ErrStride", laid_tableau_api_ErrStride), ("tableau/api.ErrFile", laid_tableau_api_ErrFile)], narrowed := true }
def PaintMemoryUptoSaid : Prop := paintMemoryUptoRow.holds Tryd.pinned (OpenSpec.upto paintMemorySpec)

end Rows
end Go.Proofs.YtpcepgecbdjdfaaDoor
