/-
  DERIVED. GIVEN WITH THE SEED: THE CARDS: each row of YtpbgbpcdohdecaaGreatDoorRows.lean that lists a variable, with what it lists TIED to the program's text (the seventh form; the later family's looks); each row that meets fmt, with fmt's text TOLD by the authors' own Lean function (tested against real Go, not proved from fmt's source: count such statements apart). THE CARD IS WHAT COUNTS. Prove the row's statement (the work); the ties are given (YtpbgbpcdohdecaaGreatDoorTie.lean); close each card by the builder's one call (the guide's Derived/Test/ToyasCard.lean, 'card_holds'). Laid BY PROGRAM, IN A SANDBOX (cutbox-door.mjs). By AI agents, Wed Nov 11 2026. No macro, syntax, notation, axiom, sorry.
-/
import Derived.Test.YtpbgbpcdohdecaaGreatDoorRows
import GoSem.ClaimSeven
namespace Go.Proofs.YtpbgbpcdohdecaaGreatDoor
namespace Rows

/-- THE TIED CARD OF 'tableaulaw26.DeskBinds'. -/
def deskBindsCard : Claim7 := { stood := { row := deskBindsRow, standIns := [], harness := (true, "ce5abdc5430028f1751c14338afba2e27e765e65ba9395ae67b1a5c70e4a8bb7"), looks := true }, kinds := [], alts := [], laidByText := true, laidKinds := [.handle, .sentinel, .sentinel, .sentinel, .sentinel, .sentinel, .sentinel, .sentinel, .sentinel, .sentinel, .sentinel, .sentinel, .sentinel, .sentinel, .sentinel, .sentinel, .sentinel, .data], laidTests := true, laidLooks := .later }
def DeskBindsCardSaid : Prop := Claim7.holds Tryz.pinned (.plain (OpenSpec.ofChange deskBindsSpec)) deskBindsCard

/-- THE SECOND FORM's CARD OF 'tableaulaw26.DeskBinds'. -/
def deskBindsUptoCard : Claim7 := { stood := { row := deskBindsUptoRow, standIns := [], harness := (true, "ce5abdc5430028f1751c14338afba2e27e765e65ba9395ae67b1a5c70e4a8bb7"), looks := true }, kinds := [], alts := [], laidByText := true, laidKinds := [.handle, .sentinel, .sentinel, .sentinel, .sentinel, .sentinel, .sentinel, .sentinel, .sentinel, .sentinel, .sentinel, .sentinel, .sentinel, .sentinel, .sentinel, .sentinel, .sentinel, .data], laidTests := true, laidLooks := .later }
def DeskBindsUptoCardSaid : Prop := Claim7.holds Tryz.pinned (.plain (OpenSpec.upto deskBindsSpec)) deskBindsUptoCard
end Rows
end Go.Proofs.YtpbgbpcdohdecaaGreatDoor
