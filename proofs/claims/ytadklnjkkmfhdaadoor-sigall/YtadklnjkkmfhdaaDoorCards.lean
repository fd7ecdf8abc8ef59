/-
  DERIVED. GIVEN WITH THE SEED: THE CARDS: each row of YtadklnjkkmfhdaaDoorRows.lean that lists a variable, with what it lists TIED to the program's text (the seventh form; the later family's looks); each row that meets fmt, with fmt's text TOLD by the authors' own Lean function (tested against real Go, not proved from fmt's source: count such statements apart). THE CARD IS WHAT COUNTS. Prove the row's statement (the work); the ties are given (YtadklnjkkmfhdaaDoorTie.lean); close each card by the builder's one call (the guide's Derived/Test/ToyasCard.lean, 'card_holds'). Laid BY PROGRAM, IN A SANDBOX (cutbox-door.mjs). By AI agents, Wed Nov 11 2026. No macro, syntax, notation, axiom, sorry.
-/
import Derived.Test.YtadklnjkkmfhdaaDoorRows
import GoSem.ClaimSeven
namespace Go.Proofs.YtadklnjkkmfhdaaDoor
namespace Rows

/-- THE TIED CARD OF 'tableaulaw03.SigAll'. -/
def sigAllCard : Claim7 := { stood := { row := sigAllRow, standIns := [], harness := (true, "0c6544c0288dc537fbb389013bdeb9215de13f90b5aee7405f5a2dee27bf9542"), looks := true }, kinds := [], alts := [], laidByText := true, laidKinds := [.sentinel, .sentinel, .sentinel, .sentinel, .sentinel, .sentinel, .sentinel, .sentinel, .sentinel, .sentinel, .sentinel, .sentinel, .sentinel, .sentinel, .sentinel, .sentinel], laidTests := true, laidLooks := .later }
def SigAllCardSaid : Prop := Claim7.holds Tryd.pinned (.plain (OpenSpec.ofChange sigAllSpec)) sigAllCard

/-- THE TIED CARD OF 'tableaulaw03.SigTable'. -/
def sigTableCard : Claim7 := { stood := { row := sigTableRow, standIns := [], harness := (true, "0c6544c0288dc537fbb389013bdeb9215de13f90b5aee7405f5a2dee27bf9542"), looks := true }, kinds := [], alts := [], laidByText := true, laidKinds := [.sentinel], laidTests := true, laidLooks := .later }
def SigTableCardSaid : Prop := Claim7.holds Tryd.pinned (.plain (OpenSpec.ofChange sigTableSpec)) sigTableCard

/-- THE TIED CARD OF 'tableaulaw03.SigNames'. -/
def sigNamesCard : Claim7 := { stood := { row := sigNamesRow, standIns := [], harness := (true, "0c6544c0288dc537fbb389013bdeb9215de13f90b5aee7405f5a2dee27bf9542"), looks := true }, kinds := [], alts := [], laidByText := true, laidKinds := [.sentinel], laidTests := true, laidLooks := .later }
def SigNamesCardSaid : Prop := Claim7.holds Tryd.pinned (.plain (OpenSpec.ofChange sigNamesSpec)) sigNamesCard

/-- THE TIED CARD OF 'tableaulaw03.SigLetters'. -/
def sigLettersCard : Claim7 := { stood := { row := sigLettersRow, standIns := [], harness := (true, "0c6544c0288dc537fbb389013bdeb9215de13f90b5aee7405f5a2dee27bf9542"), looks := true }, kinds := [], alts := [], laidByText := true, laidKinds := [.sentinel], laidTests := true, laidLooks := .later }
def SigLettersCardSaid : Prop := Claim7.holds Tryd.pinned (.plain (OpenSpec.ofChange sigLettersSpec)) sigLettersCard

/-- THE SECOND FORM's CARD OF 'tableaulaw03.SigAll'. -/
def sigAllUptoCard : Claim7 := { stood := { row := sigAllUptoRow, standIns := [], harness := (true, "0c6544c0288dc537fbb389013bdeb9215de13f90b5aee7405f5a2dee27bf9542"), looks := true }, kinds := [], alts := [], laidByText := true, laidKinds := [.sentinel, .sentinel, .sentinel, .sentinel, .sentinel, .sentinel, .sentinel, .sentinel, .sentinel, .sentinel, .sentinel, .sentinel, .sentinel, .sentinel, .sentinel, .sentinel], laidTests := true, laidLooks := .later }
def SigAllUptoCardSaid : Prop := Claim7.holds Tryd.pinned (.plain (OpenSpec.upto sigAllSpec)) sigAllUptoCard

/-- THE SECOND FORM's CARD OF 'tableaulaw03.SigTable'. -/
def sigTableUptoCard : Claim7 := { stood := { row := sigTableUptoRow, standIns := [], harness := (true, "0c6544c0288dc537fbb389013bdeb9215de13f90b5aee7405f5a2dee27bf9542"), looks := true }, kinds := [], alts := [], laidByText := true, laidKinds := [.sentinel], laidTests := true, laidLooks := .later }
def SigTableUptoCardSaid : Prop := Claim7.holds Tryd.pinned (.plain (OpenSpec.upto sigTableSpec)) sigTableUptoCard

/-- THE SECOND FORM's CARD OF 'tableaulaw03.SigNames'. -/
def sigNamesUptoCard : Claim7 := { stood := { row := sigNamesUptoRow, standIns := [], harness := (true, "0c6544c0288dc537fbb389013bdeb9215de13f90b5aee7405f5a2dee27bf9542"), looks := true }, kinds := [], alts := [], laidByText := true, laidKinds := [.sentinel], laidTests := true, laidLooks := .later }
def SigNamesUptoCardSaid : Prop := Claim7.holds Tryd.pinned (.plain (OpenSpec.upto sigNamesSpec)) sigNamesUptoCard

/-- THE SECOND FORM's CARD OF 'tableaulaw03.SigLetters'. -/
def sigLettersUptoCard : Claim7 := { stood := { row := sigLettersUptoRow, standIns := [], harness := (true, "0c6544c0288dc537fbb389013bdeb9215de13f90b5aee7405f5a2dee27bf9542"), looks := true }, kinds := [], alts := [], laidByText := true, laidKinds := [.sentinel], laidTests := true, laidLooks := .later }
def SigLettersUptoCardSaid : Prop := Claim7.holds Tryd.pinned (.plain (OpenSpec.upto sigLettersSpec)) sigLettersUptoCard
end Rows
end Go.Proofs.YtadklnjkkmfhdaaDoor
