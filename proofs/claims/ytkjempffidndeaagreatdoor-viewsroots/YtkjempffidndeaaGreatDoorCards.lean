/-
  DERIVED. GIVEN WITH THE SEED: THE CARDS: each row of YtkjempffidndeaaGreatDoorRows.lean that lists a variable, with what it lists TIED to the program's text (the seventh form; the later family's looks); each row that meets fmt, with fmt's text TOLD by the authors' own Lean function (tested against real Go, not proved from fmt's source: count such statements apart). THE CARD IS WHAT COUNTS. Prove the row's statement (the work); the ties are given (YtkjempffidndeaaGreatDoorTie.lean); close each card by the builder's one call (the guide's Derived/Test/ToyasCard.lean, 'card_holds'). Laid BY PROGRAM, IN A SANDBOX (cutbox-door.mjs). By AI agents, Wed Nov 11 2026. No macro, syntax, notation, axiom, sorry.
-/
import Derived.Test.YtkjempffidndeaaGreatDoorRows
import GoSem.ClaimSeven
namespace Go.Proofs.YtkjempffidndeaaGreatDoor
namespace Rows

/-- THE TIED CARD OF 'tableaulaw22.ViewsPlays'. -/
def viewsPlaysCard : Claim7 := { stood := { row := viewsPlaysRow, standIns := [], harness := (true, "22f5db370da829a1cc05d7363c64ddb4b34d88bc853c562e50f4f129aba49360"), looks := true }, kinds := [], alts := [], laidByText := true, laidKinds := [.sentinel, .sentinel, .sentinel, .sentinel, .sentinel, .sentinel, .sentinel, .sentinel, .sentinel, .sentinel, .sentinel, .sentinel, .sentinel, .sentinel, .sentinel, .sentinel], laidTests := true, laidLooks := .later }
def ViewsPlaysCardSaid : Prop := Claim7.holds Tryz.pinned (.plain (OpenSpec.ofChange viewsPlaysSpec)) viewsPlaysCard

/-- THE TIED CARD OF 'tableaulaw22.ViewsMoves'. -/
def viewsMovesCard : Claim7 := { stood := { row := viewsMovesRow, standIns := [], harness := (true, "22f5db370da829a1cc05d7363c64ddb4b34d88bc853c562e50f4f129aba49360"), looks := true }, kinds := [], alts := [], laidByText := true, laidKinds := [.sentinel, .sentinel, .sentinel, .sentinel, .sentinel, .sentinel, .sentinel, .sentinel, .sentinel, .sentinel, .sentinel, .sentinel, .sentinel, .sentinel, .sentinel, .sentinel], laidTests := true, laidLooks := .later }
def ViewsMovesCardSaid : Prop := Claim7.holds Tryz.pinned (.plain (OpenSpec.ofChange viewsMovesSpec)) viewsMovesCard

/-- THE TIED CARD OF 'tableaulaw22.ViewsRoots'. -/
def viewsRootsCard : Claim7 := { stood := { row := viewsRootsRow, standIns := [], harness := (true, "22f5db370da829a1cc05d7363c64ddb4b34d88bc853c562e50f4f129aba49360"), looks := true }, kinds := [], alts := [], laidByText := true, laidKinds := [.sentinel, .sentinel, .sentinel, .sentinel, .sentinel, .sentinel, .sentinel, .sentinel, .sentinel, .sentinel, .sentinel, .sentinel, .sentinel, .sentinel, .sentinel, .sentinel], laidTests := true, laidLooks := .later }
def ViewsRootsCardSaid : Prop := Claim7.holds Tryz.pinned (.plain (OpenSpec.ofChange viewsRootsSpec)) viewsRootsCard

/-- THE SECOND FORM's CARD OF 'tableaulaw22.ViewsPlays'. -/
def viewsPlaysUptoCard : Claim7 := { stood := { row := viewsPlaysUptoRow, standIns := [], harness := (true, "22f5db370da829a1cc05d7363c64ddb4b34d88bc853c562e50f4f129aba49360"), looks := true }, kinds := [], alts := [], laidByText := true, laidKinds := [.sentinel, .sentinel, .sentinel, .sentinel, .sentinel, .sentinel, .sentinel, .sentinel, .sentinel, .sentinel, .sentinel, .sentinel, .sentinel, .sentinel, .sentinel, .sentinel], laidTests := true, laidLooks := .later }
def ViewsPlaysUptoCardSaid : Prop := Claim7.holds Tryz.pinned (.plain (OpenSpec.upto viewsPlaysSpec)) viewsPlaysUptoCard

/-- THE SECOND FORM's CARD OF 'tableaulaw22.ViewsMoves'. -/
def viewsMovesUptoCard : Claim7 := { stood := { row := viewsMovesUptoRow, standIns := [], harness := (true, "22f5db370da829a1cc05d7363c64ddb4b34d88bc853c562e50f4f129aba49360"), looks := true }, kinds := [], alts := [], laidByText := true, laidKinds := [.sentinel, .sentinel, .sentinel, .sentinel, .sentinel, .sentinel, .sentinel, .sentinel, .sentinel, .sentinel, .sentinel, .sentinel, .sentinel, .sentinel, .sentinel, .sentinel], laidTests := true, laidLooks := .later }
def ViewsMovesUptoCardSaid : Prop := Claim7.holds Tryz.pinned (.plain (OpenSpec.upto viewsMovesSpec)) viewsMovesUptoCard

/-- THE SECOND FORM's CARD OF 'tableaulaw22.ViewsRoots'. -/
def viewsRootsUptoCard : Claim7 := { stood := { row := viewsRootsUptoRow, standIns := [], harness := (true, "22f5db370da829a1cc05d7363c64ddb4b34d88bc853c562e50f4f129aba49360"), looks := true }, kinds := [], alts := [], laidByText := true, laidKinds := [.sentinel, .sentinel, .sentinel, .sentinel, .sentinel, .sentinel, .sentinel, .sentinel, .sentinel, .sentinel, .sentinel, .sentinel, .sentinel, .sentinel, .sentinel, .sentinel], laidTests := true, laidLooks := .later }
def ViewsRootsUptoCardSaid : Prop := Claim7.holds Tryz.pinned (.plain (OpenSpec.upto viewsRootsSpec)) viewsRootsUptoCard
end Rows
end Go.Proofs.YtkjempffidndeaaGreatDoor
