/-
  DERIVED. GIVEN WITH THE SEED: THE CARDS: each row of YtaeeheaghfehaaaDoorRows.lean that lists a variable, with what it lists TIED to the program's text (the seventh form; the later family's looks); each row that meets fmt, with fmt's text TOLD by the authors' own Lean function (tested against real Go, not proved from fmt's source: count such statements apart). THE CARD IS WHAT COUNTS. Prove the row's statement (the work); the ties are given (YtaeeheaghfehaaaDoorTie.lean); close each card by the builder's one call (the guide's Derived/Test/ToyasCard.lean, 'card_holds'). Laid BY PROGRAM, IN A SANDBOX (cutbox-door.mjs). By AI agents, Wed Nov 11 2026. No macro, syntax, notation, axiom, sorry.
-/
import Derived.Test.YtaeeheaghfehaaaDoorRows
import GoSem.ClaimSeven
namespace Go.Proofs.YtaeeheaghfehaaaDoor
namespace Rows

/-- THE TIED CARD OF 'tableaulaw06.IdsPlays'. -/
def idsPlaysCard : Claim7 := { stood := { row := idsPlaysRow, standIns := [], harness := (true, "73bd3cb1bb0e24d1aaaa2e469d74516e9afb1c47fc137e111e19e14f823783f8"), looks := true }, kinds := [], alts := [], laidByText := true, laidKinds := [.sentinel, .sentinel, .sentinel, .sentinel, .sentinel, .sentinel, .sentinel, .sentinel, .sentinel, .sentinel, .sentinel, .sentinel, .sentinel, .sentinel, .sentinel, .sentinel], laidTests := true, laidLooks := .later }
def IdsPlaysCardSaid : Prop := Claim7.holds Tryd.pinned (.plain (OpenSpec.ofChange idsPlaysSpec)) idsPlaysCard

/-- THE TIED CARD OF 'tableaulaw06.IdsFull'. -/
def idsFullCard : Claim7 := { stood := { row := idsFullRow, standIns := [], harness := (true, "73bd3cb1bb0e24d1aaaa2e469d74516e9afb1c47fc137e111e19e14f823783f8"), looks := true }, kinds := [], alts := [], laidByText := true, laidKinds := [.sentinel, .sentinel, .sentinel, .sentinel, .sentinel, .sentinel, .sentinel, .sentinel, .sentinel, .sentinel, .sentinel, .sentinel, .sentinel, .sentinel, .sentinel, .sentinel], laidTests := true, laidLooks := .later }
def IdsFullCardSaid : Prop := Claim7.holds Tryd.pinned (.plain (OpenSpec.ofChange idsFullSpec)) idsFullCard

/-- THE TIED CARD OF 'tableaulaw06.IdsOthers'. -/
def idsOthersCard : Claim7 := { stood := { row := idsOthersRow, standIns := [], harness := (true, "73bd3cb1bb0e24d1aaaa2e469d74516e9afb1c47fc137e111e19e14f823783f8"), looks := true }, kinds := [], alts := [], laidByText := true, laidKinds := [.sentinel, .sentinel], laidTests := true, laidLooks := .later }
def IdsOthersCardSaid : Prop := Claim7.holds Tryd.pinned (.plain (OpenSpec.ofChange idsOthersSpec)) idsOthersCard

/-- THE SECOND FORM's CARD OF 'tableaulaw06.IdsPlays'. -/
def idsPlaysUptoCard : Claim7 := { stood := { row := idsPlaysUptoRow, standIns := [], harness := (true, "73bd3cb1bb0e24d1aaaa2e469d74516e9afb1c47fc137e111e19e14f823783f8"), looks := true }, kinds := [], alts := [], laidByText := true, laidKinds := [.sentinel, .sentinel, .sentinel, .sentinel, .sentinel, .sentinel, .sentinel, .sentinel, .sentinel, .sentinel, .sentinel, .sentinel, .sentinel, .sentinel, .sentinel, .sentinel], laidTests := true, laidLooks := .later }
def IdsPlaysUptoCardSaid : Prop := Claim7.holds Tryd.pinned (.plain (OpenSpec.upto idsPlaysSpec)) idsPlaysUptoCard

/-- THE SECOND FORM's CARD OF 'tableaulaw06.IdsFull'. -/
def idsFullUptoCard : Claim7 := { stood := { row := idsFullUptoRow, standIns := [], harness := (true, "73bd3cb1bb0e24d1aaaa2e469d74516e9afb1c47fc137e111e19e14f823783f8"), looks := true }, kinds := [], alts := [], laidByText := true, laidKinds := [.sentinel, .sentinel, .sentinel, .sentinel, .sentinel, .sentinel, .sentinel, .sentinel, .sentinel, .sentinel, .sentinel, .sentinel, .sentinel, .sentinel, .sentinel, .sentinel], laidTests := true, laidLooks := .later }
def IdsFullUptoCardSaid : Prop := Claim7.holds Tryd.pinned (.plain (OpenSpec.upto idsFullSpec)) idsFullUptoCard

/-- THE SECOND FORM's CARD OF 'tableaulaw06.IdsOthers'. -/
def idsOthersUptoCard : Claim7 := { stood := { row := idsOthersUptoRow, standIns := [], harness := (true, "73bd3cb1bb0e24d1aaaa2e469d74516e9afb1c47fc137e111e19e14f823783f8"), looks := true }, kinds := [], alts := [], laidByText := true, laidKinds := [.sentinel, .sentinel], laidTests := true, laidLooks := .later }
def IdsOthersUptoCardSaid : Prop := Claim7.holds Tryd.pinned (.plain (OpenSpec.upto idsOthersSpec)) idsOthersUptoCard
end Rows
end Go.Proofs.YtaeeheaghfehaaaDoor
