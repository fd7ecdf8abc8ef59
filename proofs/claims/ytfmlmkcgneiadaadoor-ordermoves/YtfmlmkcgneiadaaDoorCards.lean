/-
  DERIVED. GIVEN WITH THE SEED: THE CARDS: each row of YtfmlmkcgneiadaaDoorRows.lean that lists a variable, with what it lists TIED to the program's text (the seventh form; the later family's looks); each row that meets fmt, with fmt's text TOLD by the authors' own Lean function (tested against real Go, not proved from fmt's source: count such statements apart). THE CARD IS WHAT COUNTS. Prove the row's statement (the work); the ties are given (YtfmlmkcgneiadaaDoorTie.lean); close each card by the builder's one call (the guide's Derived/Test/ToyasCard.lean, 'card_holds'). Laid BY PROGRAM, IN A SANDBOX (cutbox-door.mjs). By AI agents, Wed Nov 11 2026. No macro, syntax, notation, axiom, sorry.
-/
import Derived.Test.YtfmlmkcgneiadaaDoorRows
import GoSem.ClaimSeven
namespace Go.Proofs.YtfmlmkcgneiadaaDoor
namespace Rows

/-- THE TIED CARD OF 'tableaulaw16.OrderAll'. -/
def orderAllCard : Claim7 := { stood := { row := orderAllRow, standIns := [], harness := (true, "2450789135342af0780cc436f47ba9c05e7049b2c7f1b3bec9b74f4d467e65d9"), looks := true }, kinds := [], alts := [], laidByText := true, laidKinds := [.sentinel, .sentinel, .sentinel, .sentinel, .sentinel, .sentinel, .sentinel, .sentinel, .sentinel, .sentinel, .sentinel, .sentinel, .sentinel, .sentinel, .sentinel, .sentinel], laidTests := true, laidLooks := .later }
def OrderAllCardSaid : Prop := Claim7.holds Tryd.pinned (.plain (OpenSpec.ofChange orderAllSpec)) orderAllCard

/-- THE TIED CARD OF 'tableaulaw16.OrderMoves'. -/
def orderMovesCard : Claim7 := { stood := { row := orderMovesRow, standIns := [], harness := (true, "2450789135342af0780cc436f47ba9c05e7049b2c7f1b3bec9b74f4d467e65d9"), looks := true }, kinds := [], alts := [], laidByText := true, laidKinds := [.sentinel, .sentinel, .sentinel, .sentinel, .sentinel, .sentinel, .sentinel, .sentinel, .sentinel, .sentinel, .sentinel, .sentinel, .sentinel, .sentinel, .sentinel, .sentinel], laidTests := true, laidLooks := .later }
def OrderMovesCardSaid : Prop := Claim7.holds Tryd.pinned (.plain (OpenSpec.ofChange orderMovesSpec)) orderMovesCard

/-- THE TIED CARD OF 'tableaulaw16.OrderTops'. -/
def orderTopsCard : Claim7 := { stood := { row := orderTopsRow, standIns := [], harness := (true, "2450789135342af0780cc436f47ba9c05e7049b2c7f1b3bec9b74f4d467e65d9"), looks := true }, kinds := [], alts := [], laidByText := true, laidKinds := [.sentinel, .sentinel, .sentinel, .sentinel, .sentinel, .sentinel, .sentinel, .sentinel, .sentinel, .sentinel, .sentinel, .sentinel, .sentinel, .sentinel, .sentinel, .sentinel], laidTests := true, laidLooks := .later }
def OrderTopsCardSaid : Prop := Claim7.holds Tryd.pinned (.plain (OpenSpec.ofChange orderTopsSpec)) orderTopsCard

/-- THE SECOND FORM's CARD OF 'tableaulaw16.OrderAll'. -/
def orderAllUptoCard : Claim7 := { stood := { row := orderAllUptoRow, standIns := [], harness := (true, "2450789135342af0780cc436f47ba9c05e7049b2c7f1b3bec9b74f4d467e65d9"), looks := true }, kinds := [], alts := [], laidByText := true, laidKinds := [.sentinel, .sentinel, .sentinel, .sentinel, .sentinel, .sentinel, .sentinel, .sentinel, .sentinel, .sentinel, .sentinel, .sentinel, .sentinel, .sentinel, .sentinel, .sentinel], laidTests := true, laidLooks := .later }
def OrderAllUptoCardSaid : Prop := Claim7.holds Tryd.pinned (.plain (OpenSpec.upto orderAllSpec)) orderAllUptoCard

/-- THE SECOND FORM's CARD OF 'tableaulaw16.OrderMoves'. -/
def orderMovesUptoCard : Claim7 := { stood := { row := orderMovesUptoRow, standIns := [], harness := (true, "2450789135342af0780cc436f47ba9c05e7049b2c7f1b3bec9b74f4d467e65d9"), looks := true }, kinds := [], alts := [], laidByText := true, laidKinds := [.sentinel, .sentinel, .sentinel, .sentinel, .sentinel, .sentinel, .sentinel, .sentinel, .sentinel, .sentinel, .sentinel, .sentinel, .sentinel, .sentinel, .sentinel, .sentinel], laidTests := true, laidLooks := .later }
def OrderMovesUptoCardSaid : Prop := Claim7.holds Tryd.pinned (.plain (OpenSpec.upto orderMovesSpec)) orderMovesUptoCard

/-- THE SECOND FORM's CARD OF 'tableaulaw16.OrderTops'. -/
def orderTopsUptoCard : Claim7 := { stood := { row := orderTopsUptoRow, standIns := [], harness := (true, "2450789135342af0780cc436f47ba9c05e7049b2c7f1b3bec9b74f4d467e65d9"), looks := true }, kinds := [], alts := [], laidByText := true, laidKinds := [.sentinel, .sentinel, .sentinel, .sentinel, .sentinel, .sentinel, .sentinel, .sentinel, .sentinel, .sentinel, .sentinel, .sentinel, .sentinel, .sentinel, .sentinel, .sentinel], laidTests := true, laidLooks := .later }
def OrderTopsUptoCardSaid : Prop := Claim7.holds Tryd.pinned (.plain (OpenSpec.upto orderTopsSpec)) orderTopsUptoCard
end Rows
end Go.Proofs.YtfmlmkcgneiadaaDoor
