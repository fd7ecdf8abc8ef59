/-
  DERIVED. GIVEN WITH THE SEED: THE CARDS: each row of YtnlaegleekghmaaDoorRows.lean that lists a variable, with what it lists TIED to the program's text (the seventh form; the later family's looks); each row that meets fmt, with fmt's text TOLD by the authors' own Lean function (tested against real Go, not proved from fmt's source: count such statements apart). THE CARD IS WHAT COUNTS. Prove the row's statement (the work); the ties are given (YtnlaegleekghmaaDoorTie.lean); close each card by the builder's one call (the guide's Derived/Test/ToyasCard.lean, 'card_holds'). Laid BY PROGRAM, IN A SANDBOX (cutbox-door.mjs). By AI agents, Wed Nov 11 2026. No macro, syntax, notation, axiom, sorry.
-/
import Derived.Test.YtnlaegleekghmaaDoorRows
import GoSem.ClaimSeven
namespace Go.Proofs.YtnlaegleekghmaaDoor
namespace Rows

/-- THE TIED CARD OF 'tableaulaw18.ShellPlays'. -/
def shellPlaysCard : Claim7 := { stood := { row := shellPlaysRow, standIns := [], harness := (true, "21da5d4d0b35458618ce68042c52cf58ead568528d845a694b28a666c53bcef1"), looks := true }, kinds := [], alts := [], laidByText := true, laidKinds := [.sentinel, .sentinel, .sentinel, .sentinel, .sentinel, .sentinel, .sentinel, .sentinel, .sentinel, .sentinel, .sentinel, .sentinel, .sentinel, .sentinel, .sentinel, .sentinel], laidTests := true, laidLooks := .later }
def ShellPlaysCardSaid : Prop := Claim7.holds Tryd.pinned (.plain (OpenSpec.ofChange shellPlaysSpec)) shellPlaysCard

/-- THE TIED CARD OF 'tableaulaw18.ShellAcks'. -/
def shellAcksCard : Claim7 := { stood := { row := shellAcksRow, standIns := [], harness := (true, "21da5d4d0b35458618ce68042c52cf58ead568528d845a694b28a666c53bcef1"), looks := true }, kinds := [], alts := [], laidByText := true, laidKinds := [.sentinel, .sentinel, .sentinel, .sentinel, .sentinel, .sentinel, .sentinel, .sentinel, .sentinel, .sentinel, .sentinel, .sentinel, .sentinel, .sentinel, .sentinel, .sentinel], laidTests := true, laidLooks := .later }
def ShellAcksCardSaid : Prop := Claim7.holds Tryd.pinned (.plain (OpenSpec.ofChange shellAcksSpec)) shellAcksCard

/-- THE TIED CARD OF 'tableaulaw18.ShellMaps'. -/
def shellMapsCard : Claim7 := { stood := { row := shellMapsRow, standIns := [], harness := (true, "21da5d4d0b35458618ce68042c52cf58ead568528d845a694b28a666c53bcef1"), looks := true }, kinds := [], alts := [], laidByText := true, laidKinds := [.sentinel, .sentinel, .sentinel, .sentinel, .sentinel, .sentinel, .sentinel, .sentinel, .sentinel, .sentinel, .sentinel, .sentinel, .sentinel, .sentinel, .sentinel, .sentinel], laidTests := true, laidLooks := .later }
def ShellMapsCardSaid : Prop := Claim7.holds Tryd.pinned (.plain (OpenSpec.ofChange shellMapsSpec)) shellMapsCard

/-- THE TIED CARD OF 'tableaulaw18.ShellApart'. -/
def shellApartCard : Claim7 := { stood := { row := shellApartRow, standIns := [], harness := (true, "21da5d4d0b35458618ce68042c52cf58ead568528d845a694b28a666c53bcef1"), looks := true }, kinds := [], alts := [], laidByText := true, laidKinds := [.sentinel, .sentinel, .sentinel, .sentinel, .sentinel, .sentinel, .sentinel, .sentinel, .sentinel, .sentinel, .sentinel, .sentinel, .sentinel, .sentinel, .sentinel, .sentinel], laidTests := true, laidLooks := .later }
def ShellApartCardSaid : Prop := Claim7.holds Tryd.pinned (.plain (OpenSpec.ofChange shellApartSpec)) shellApartCard

/-- THE SECOND FORM's CARD OF 'tableaulaw18.ShellPlays'. -/
def shellPlaysUptoCard : Claim7 := { stood := { row := shellPlaysUptoRow, standIns := [], harness := (true, "21da5d4d0b35458618ce68042c52cf58ead568528d845a694b28a666c53bcef1"), looks := true }, kinds := [], alts := [], laidByText := true, laidKinds := [.sentinel, .sentinel, .sentinel, .sentinel, .sentinel, .sentinel, .sentinel, .sentinel, .sentinel, .sentinel, .sentinel, .sentinel, .sentinel, .sentinel, .sentinel, .sentinel], laidTests := true, laidLooks := .later }
def ShellPlaysUptoCardSaid : Prop := Claim7.holds Tryd.pinned (.plain (OpenSpec.upto shellPlaysSpec)) shellPlaysUptoCard

/-- THE SECOND FORM's CARD OF 'tableaulaw18.ShellAcks'. -/
def shellAcksUptoCard : Claim7 := { stood := { row := shellAcksUptoRow, standIns := [], harness := (true, "21da5d4d0b35458618ce68042c52cf58ead568528d845a694b28a666c53bcef1"), looks := true }, kinds := [], alts := [], laidByText := true, laidKinds := [.sentinel, .sentinel, .sentinel, .sentinel, .sentinel, .sentinel, .sentinel, .sentinel, .sentinel, .sentinel, .sentinel, .sentinel, .sentinel, .sentinel, .sentinel, .sentinel], laidTests := true, laidLooks := .later }
def ShellAcksUptoCardSaid : Prop := Claim7.holds Tryd.pinned (.plain (OpenSpec.upto shellAcksSpec)) shellAcksUptoCard

/-- THE SECOND FORM's CARD OF 'tableaulaw18.ShellMaps'. -/
def shellMapsUptoCard : Claim7 := { stood := { row := shellMapsUptoRow, standIns := [], harness := (true, "21da5d4d0b35458618ce68042c52cf58ead568528d845a694b28a666c53bcef1"), looks := true }, kinds := [], alts := [], laidByText := true, laidKinds := [.sentinel, .sentinel, .sentinel, .sentinel, .sentinel, .sentinel, .sentinel, .sentinel, .sentinel, .sentinel, .sentinel, .sentinel, .sentinel, .sentinel, .sentinel, .sentinel], laidTests := true, laidLooks := .later }
def ShellMapsUptoCardSaid : Prop := Claim7.holds Tryd.pinned (.plain (OpenSpec.upto shellMapsSpec)) shellMapsUptoCard

/-- THE SECOND FORM's CARD OF 'tableaulaw18.ShellApart'. -/
def shellApartUptoCard : Claim7 := { stood := { row := shellApartUptoRow, standIns := [], harness := (true, "21da5d4d0b35458618ce68042c52cf58ead568528d845a694b28a666c53bcef1"), looks := true }, kinds := [], alts := [], laidByText := true, laidKinds := [.sentinel, .sentinel, .sentinel, .sentinel, .sentinel, .sentinel, .sentinel, .sentinel, .sentinel, .sentinel, .sentinel, .sentinel, .sentinel, .sentinel, .sentinel, .sentinel], laidTests := true, laidLooks := .later }
def ShellApartUptoCardSaid : Prop := Claim7.holds Tryd.pinned (.plain (OpenSpec.upto shellApartSpec)) shellApartUptoCard
end Rows
end Go.Proofs.YtnlaegleekghmaaDoor
