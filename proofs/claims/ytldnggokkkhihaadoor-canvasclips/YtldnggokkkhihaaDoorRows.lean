/-
  NARROWER THAN 'FOR EVERY INPUT', by the rows' own cells (each row's printed sentence says how): CanvasPlays: laid · CanvasClips: laid · CanvasCopies: laid · CanvasFills: laid.
  DERIVED. THE GIVEN ROWS OF THIS SEAT. 4 by the template 'for every input the law returns true; each argument reads behind the call as it read before'; 0 by the template 'total and deterministic' (their statements: YtldnggokkkhihaaDoorTotals.lean).
  GIVEN WITH THE SEED: the statements are not yours to turn. If you find one false, say at which input.
  Laid BY PROGRAM, IN A SANDBOX (cutbox-rows.mjs): the forced cells as the released guide's own fill.sh prints them over the translation 4dcc5bbb62ffdf83… (all of the seat's roots in one cut). By AI agents, Wed Nov 11 2026. No macro, syntax, notation, axiom, sorry.
-/
import Derived.Test.YtldnggokkkhihaaDoorChecked
import GoSem.Claim
import GoSem.ClaimJoined
import GoSem.ClaimMapViews
import Derived.JoinedTies
import Derived.KernelRfl
namespace Go.Proofs.YtldnggokkkhihaaDoor
/- THE CELL 'sum', in the pinned program and in every row, IS THE sha256 OF THE DUMP (.gsa) THAT YtldnggokkkhihaaDoorProg.lean LOADS. Nothing in Lean hashes anything: it is a label: what it is worth is what the hold of that sum in a sandbox is worth. -/
noncomputable def Tryd.pinned : Pinned := { name := "ytldnggokkkhihaadoor", sum := "4dcc5bbb62ffdf83ece8356384d6f032515b47deab25b074c6f16f6938e5389d", checked := Tryd.checked }
namespace Rows
def none {H : Type} : Left H := { results := [], args := [] }

/- WHAT THE LISTED PACKAGE-LEVEL VARIABLES READ AS WHEN THE CALL BEGINS. Each datum BY PROGRAM (the guide's laid-datum.mjs) off the statement by which the dump's own 'gosem.cut.vars' lays the variable. In a bare row this is a premise. The card (YtldnggokkkhihaaDoorCards.lean) ties it to the program's text. -/
def laid_tableau_api_ErrArg {H : Type} : DataW H := .iface "*errors.errorString" (.ptr (.agg [.lit (.string [97, 114, 103, 117, 109, 101, 110, 116])]))

/-- 'tableaulaw14.CanvasPlays': WHATEVER THE INPUT: true; the input reads as it did. -/
def canvasPlaysSpec : ChangeSpec := { name := "canvasPlays", fn := fun _ => fun
  | [d1, d2, d3] => { results := [.lit (.bool true)], args := [d1, d2, d3] }
  | _ => none }
def canvasPlaysRow : OpenClaim := { program := "ytldnggokkkhihaadoor", sum := "4dcc5bbb62ffdf83ece8356384d6f032515b47deab25b074c6f16f6938e5389d", func := "tableau/tableaulaw14.CanvasPlays", spec := "canvasPlays", unfollowed := true, recurses := true, named := ["tableau/api.ErrArg"], apart := false, laid := [("tableau/api.ErrArg", laid_tableau_api_ErrArg)] }
def CanvasPlaysSaid : Prop := canvasPlaysRow.holds Tryd.pinned (OpenSpec.ofChange canvasPlaysSpec)

/-- ITS FALSE NEIGHBOUR: 'it returns false'. Refute it at one input. -/
def canvasPlaysWrong : ChangeSpec := { name := "canvasPlays", fn := fun _ => fun
  | [d1, d2, d3] => { results := [.lit (.bool false)], args := [d1, d2, d3] }
  | _ => none }
def CanvasPlaysWrongFalsely : Prop := canvasPlaysRow.holds Tryd.pinned (OpenSpec.ofChange canvasPlaysWrong)

/-- 'tableaulaw14.CanvasClips': WHATEVER THE INPUT: true; the input reads as it did. -/
def canvasClipsSpec : ChangeSpec := { name := "canvasClips", fn := fun _ => fun
  | [d1, d2, d3, d4] => { results := [.lit (.bool true)], args := [d1, d2, d3, d4] }
  | _ => none }
def canvasClipsRow : OpenClaim := { program := "ytldnggokkkhihaadoor", sum := "4dcc5bbb62ffdf83ece8356384d6f032515b47deab25b074c6f16f6938e5389d", func := "tableau/tableaulaw14.CanvasClips", spec := "canvasClips", unfollowed := true, recurses := true, named := ["tableau/api.ErrArg"], apart := false, laid := [("tableau/api.ErrArg", laid_tableau_api_ErrArg)] }
def CanvasClipsSaid : Prop := canvasClipsRow.holds Tryd.pinned (OpenSpec.ofChange canvasClipsSpec)

/-- ITS FALSE NEIGHBOUR: 'it returns false'. Refute it at one input. -/
def canvasClipsWrong : ChangeSpec := { name := "canvasClips", fn := fun _ => fun
  | [d1, d2, d3, d4] => { results := [.lit (.bool false)], args := [d1, d2, d3, d4] }
  | _ => none }
def CanvasClipsWrongFalsely : Prop := canvasClipsRow.holds Tryd.pinned (OpenSpec.ofChange canvasClipsWrong)

/-- 'tableaulaw14.CanvasCopies': WHATEVER THE INPUT: true; the input reads as it did. -/
def canvasCopiesSpec : ChangeSpec := { name := "canvasCopies", fn := fun _ => fun
  | [d1, d2, d3, d4, d5] => { results := [.lit (.bool true)], args := [d1, d2, d3, d4, d5] }
  | _ => none }
def canvasCopiesRow : OpenClaim := { program := "ytldnggokkkhihaadoor", sum := "4dcc5bbb62ffdf83ece8356384d6f032515b47deab25b074c6f16f6938e5389d", func := "tableau/tableaulaw14.CanvasCopies", spec := "canvasCopies", unfollowed := true, recurses := true, named := ["tableau/api.ErrArg"], apart := false, laid := [("tableau/api.ErrArg", laid_tableau_api_ErrArg)] }
def CanvasCopiesSaid : Prop := canvasCopiesRow.holds Tryd.pinned (OpenSpec.ofChange canvasCopiesSpec)

/-- ITS FALSE NEIGHBOUR: 'it returns false'. Refute it at one input. -/
def canvasCopiesWrong : ChangeSpec := { name := "canvasCopies", fn := fun _ => fun
  | [d1, d2, d3, d4, d5] => { results := [.lit (.bool false)], args := [d1, d2, d3, d4, d5] }
  | _ => none }
def CanvasCopiesWrongFalsely : Prop := canvasCopiesRow.holds Tryd.pinned (OpenSpec.ofChange canvasCopiesWrong)

/-- 'tableaulaw14.CanvasFills': WHATEVER THE INPUT: true; the input reads as it did. -/
def canvasFillsSpec : ChangeSpec := { name := "canvasFills", fn := fun _ => fun
  | [d1, d2, d3, d4, d5, d6] => { results := [.lit (.bool true)], args := [d1, d2, d3, d4, d5, d6] }
  | _ => none }
def canvasFillsRow : OpenClaim := { program := "ytldnggokkkhihaadoor", sum := "4dcc5bbb62ffdf83ece8356384d6f032515b47deab25b074c6f16f6938e5389d", func := "tableau/tableaulaw14.CanvasFills", spec := "canvasFills", unfollowed := true, recurses := true, named := ["tableau/api.ErrArg"], apart := false, laid := [("tableau/api.ErrArg", laid_tableau_api_ErrArg)] }
def CanvasFillsSaid : Prop := canvasFillsRow.holds Tryd.pinned (OpenSpec.ofChange canvasFillsSpec)

/-- ITS FALSE NEIGHBOUR: 'it returns false'. Refute it at one input. -/
def canvasFillsWrong : ChangeSpec := { name := "canvasFills", fn := fun _ => fun
  | [d1, d2, d3, d4, d5, d6] => { results := [.lit (.bool false)], args := [d1, d2, d3, d4, d5, d6] }
  | _ => none }
def CanvasFillsWrongFalsely : Prop := canvasFillsRow.holds Tryd.pinned (OpenSpec.ofChange canvasFillsWrong)

/- THE SECOND FORM. 'bulk': how many values and letters a reading holds, each counted each time it is reached (what is shared counts as often as it is met; a slice's spare places count too). A statement '..UptoSaid' is the law's where the arguments, and the package variables that the reading takes, are together of bulk at most 1048576: NARROWER than '..Said'. Prove '..Said' where nothing that the law and all that it calls make is longer than what came in: it says more and counts as full. Else prove '..UptoSaid'. A law counts once. -/
mutual
def uptoBulk {H : Type} : DataW H → Nat
  | .lit (.string bytes) => bytes.length + 1
  | .lit _ => 1
  | .nil => 1
  | .ptr d => uptoBulk d + 1
  | .slice elems spare => uptoBulkAll elems + uptoBulkAll spare + 1
  | .agg parts => uptoBulkAll parts + 1
  | .iface _ d => uptoBulk d + 1
  | .map entries => uptoBulkEntries entries + 1
  | .held _ => 1
def uptoBulkAll {H : Type} : List (DataW H) → Nat
  | [] => 0
  | d :: r => uptoBulk d + uptoBulkAll r
def uptoBulkEntries {H : Type} : List (Lit × DataW H) → Nat
  | [] => 0
  | x :: r => uptoBulkEntry x + uptoBulkEntries r
def uptoBulkEntry {H : Type} : Lit × DataW H → Nat
  | (.string bytes, d) => bytes.length + uptoBulk d + 1
  | (_, d) => uptoBulk d + 1
 end
def uptoSmall : (H : Type) → List (DataW H) → Bool := fun _ ds => decide (uptoBulkAll ds ≤ 1048576)
def OpenSpec.upto (s : _root_.Go.ChangeSpec) : _root_.Go.OpenSpec := { _root_.Go.OpenSpec.ofChange s with cond := some uptoSmall }

/-- 'tableaulaw14.CanvasPlays', WHERE WHAT IT READS IS OF BULK AT MOST 1048576: true; the input reads as it did. -/
def canvasPlaysUptoRow : OpenClaim := { program := "ytldnggokkkhihaadoor", sum := "4dcc5bbb62ffdf83ece8356384d6f032515b47deab25b074c6f16f6938e5389d", func := "tableau/tableaulaw14.CanvasPlays", spec := "canvasPlays", unfollowed := true, recurses := true, named := ["tableau/api.ErrArg"], apart := false, laid := [("tableau/api.ErrArg", laid_tableau_api_ErrArg)], narrowed := true }
def CanvasPlaysUptoSaid : Prop := canvasPlaysUptoRow.holds Tryd.pinned (OpenSpec.upto canvasPlaysSpec)

/-- 'tableaulaw14.CanvasClips', WHERE WHAT IT READS IS OF BULK AT MOST 1048576: true; the input reads as it did. -/
def canvasClipsUptoRow : OpenClaim := { program := "ytldnggokkkhihaadoor", sum := "4dcc5bbb62ffdf83ece8356384d6f032515b47deab25b074c6f16f6938e5389d", func := "tableau/tableaulaw14.CanvasClips", spec := "canvasClips", unfollowed := true, recurses := true, named := ["tableau/api.ErrArg"], apart := false, laid := [("tableau/api.ErrArg", laid_tableau_api_ErrArg)], narrowed := true }
def CanvasClipsUptoSaid : Prop := canvasClipsUptoRow.holds Tryd.pinned (OpenSpec.upto canvasClipsSpec)

/-- 'tableaulaw14.CanvasCopies', WHERE WHAT IT READS IS OF BULK AT MOST 1048576: true; the input reads as it did. -/
def canvasCopiesUptoRow : OpenClaim := { program := "ytldnggokkkhihaadoor", sum := "4dcc5bbb62ffdf83ece8356384d6f032515b47deab25b074c6f16f6938e5389d", func := "tableau/tableaulaw14.CanvasCopies", spec := "canvasCopies", unfollowed := true, recurses := true, named := ["tableau/api.ErrArg"], apart := false, laid := [("tableau/api.ErrArg", laid_tableau_api_ErrArg)], narrowed := true }
def CanvasCopiesUptoSaid : Prop := canvasCopiesUptoRow.holds Tryd.pinned (OpenSpec.upto canvasCopiesSpec)

/-- 'tableaulaw14.CanvasFills', WHERE WHAT IT READS IS OF BULK AT MOST 1048576: true; the input reads as it did. -/
def canvasFillsUptoRow : OpenClaim := { program := "ytldnggokkkhihaadoor", sum := "4dcc5bbb62ffdf83ece8356384d6f032515b47deab25b074c6f16f6938e5389d", func := "tableau/tableaulaw14.CanvasFills", spec := "canvasFills", unfollowed := true, recurses := true, named := ["tableau/api.ErrArg"], apart := false, laid := [("tableau/api.ErrArg", laid_tableau_api_ErrArg)], narrowed := true }
def CanvasFillsUptoSaid : Prop := canvasFillsUptoRow.holds Tryd.pinned (OpenSpec.upto canvasFillsSpec)

end Rows
end Go.Proofs.YtldnggokkkhihaaDoor
