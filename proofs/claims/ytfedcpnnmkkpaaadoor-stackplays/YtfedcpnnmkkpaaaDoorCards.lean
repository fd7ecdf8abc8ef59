/-
  DERIVED. GIVEN WITH THE SEED: THE CARDS: each row of YtfedcpnnmkkpaaaDoorRows.lean that lists a variable, with what it lists TIED to the program's text (the seventh form; the later family's looks); each row that meets fmt, with fmt's text TOLD by the authors' own Lean function (tested against real Go, not proved from fmt's source: count such statements apart). THE CARD IS WHAT COUNTS. Prove the row's statement (the work); the ties are given (YtfedcpnnmkkpaaaDoorTie.lean); close each card by the builder's one call (the guide's Derived/Test/ToyasCard.lean, 'card_holds'). Laid BY PROGRAM, IN A SANDBOX (cutbox-door.mjs). By AI agents, Wed Nov 11 2026. No macro, syntax, notation, axiom, sorry.
-/
import Derived.Test.YtfedcpnnmkkpaaaDoorRows
import GoSem.ClaimSeven
namespace Go.Proofs.YtfedcpnnmkkpaaaDoor
namespace Rows

/-- THE TIED CARD OF 'tableaulaw19.StackPlays'. -/
def stackPlaysCard : Claim7 := { stood := { row := stackPlaysRow, standIns := [], harness := (true, "6d0fef7fe643af39547cae328cfeab68241e44e12ce4c48d64f7723bf82d1a15"), looks := true }, kinds := [], alts := [], laidByText := true, laidKinds := [.sentinel], laidTests := true, laidLooks := .later }
def StackPlaysCardSaid : Prop := Claim7.holds Tryd.pinned (.plain (OpenSpec.ofChange stackPlaysSpec)) stackPlaysCard

/-- THE TIED CARD OF 'tableaulaw19.StackRounds'. -/
def stackRoundsCard : Claim7 := { stood := { row := stackRoundsRow, standIns := [], harness := (true, "6d0fef7fe643af39547cae328cfeab68241e44e12ce4c48d64f7723bf82d1a15"), looks := true }, kinds := [], alts := [], laidByText := true, laidKinds := [.sentinel], laidTests := true, laidLooks := .later }
def StackRoundsCardSaid : Prop := Claim7.holds Tryd.pinned (.plain (OpenSpec.ofChange stackRoundsSpec)) stackRoundsCard

/-- THE TIED CARD OF 'tableaulaw19.StackDrops'. -/
def stackDropsCard : Claim7 := { stood := { row := stackDropsRow, standIns := [], harness := (true, "6d0fef7fe643af39547cae328cfeab68241e44e12ce4c48d64f7723bf82d1a15"), looks := true }, kinds := [], alts := [], laidByText := true, laidKinds := [.sentinel], laidTests := true, laidLooks := .later }
def StackDropsCardSaid : Prop := Claim7.holds Tryd.pinned (.plain (OpenSpec.ofChange stackDropsSpec)) stackDropsCard

/-- THE SECOND FORM's CARD OF 'tableaulaw19.StackPlays'. -/
def stackPlaysUptoCard : Claim7 := { stood := { row := stackPlaysUptoRow, standIns := [], harness := (true, "6d0fef7fe643af39547cae328cfeab68241e44e12ce4c48d64f7723bf82d1a15"), looks := true }, kinds := [], alts := [], laidByText := true, laidKinds := [.sentinel], laidTests := true, laidLooks := .later }
def StackPlaysUptoCardSaid : Prop := Claim7.holds Tryd.pinned (.plain (OpenSpec.upto stackPlaysSpec)) stackPlaysUptoCard

/-- THE SECOND FORM's CARD OF 'tableaulaw19.StackRounds'. -/
def stackRoundsUptoCard : Claim7 := { stood := { row := stackRoundsUptoRow, standIns := [], harness := (true, "6d0fef7fe643af39547cae328cfeab68241e44e12ce4c48d64f7723bf82d1a15"), looks := true }, kinds := [], alts := [], laidByText := true, laidKinds := [.sentinel], laidTests := true, laidLooks := .later }
def StackRoundsUptoCardSaid : Prop := Claim7.holds Tryd.pinned (.plain (OpenSpec.upto stackRoundsSpec)) stackRoundsUptoCard

/-- THE SECOND FORM's CARD OF 'tableaulaw19.StackDrops'. -/
def stackDropsUptoCard : Claim7 := { stood := { row := stackDropsUptoRow, standIns := [], harness := (true, "6d0fef7fe643af39547cae328cfeab68241e44e12ce4c48d64f7723bf82d1a15"), looks := true }, kinds := [], alts := [], laidByText := true, laidKinds := [.sentinel], laidTests := true, laidLooks := .later }
def StackDropsUptoCardSaid : Prop := Claim7.holds Tryd.pinned (.plain (OpenSpec.upto stackDropsSpec)) stackDropsUptoCard
end Rows
end Go.Proofs.YtfedcpnnmkkpaaaDoor
