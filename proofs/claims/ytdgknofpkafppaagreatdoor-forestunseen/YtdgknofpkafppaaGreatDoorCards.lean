/-
  DERIVED. GIVEN WITH THE SEED: THE CARDS: each row of YtdgknofpkafppaaGreatDoorRows.lean that lists a variable, with what it lists TIED to the program's text (the seventh form; the later family's looks); each row that meets fmt, with fmt's text TOLD by the authors' own Lean function (tested against real Go, not proved from fmt's source: count such statements apart). THE CARD IS WHAT COUNTS. Prove the row's statement (the work); the ties are given (YtdgknofpkafppaaGreatDoorTie.lean); close each card by the builder's one call (the guide's Derived/Test/ToyasCard.lean, 'card_holds'). Laid BY PROGRAM, IN A SANDBOX (cutbox-door.mjs). By AI agents, Wed Nov 11 2026. No macro, syntax, notation, axiom, sorry.
-/
import Derived.Test.YtdgknofpkafppaaGreatDoorRows
import GoSem.ClaimSeven
namespace Go.Proofs.YtdgknofpkafppaaGreatDoor
namespace Rows

/-- THE TIED CARD OF 'tableaulaw17.ForestPlays'. -/
def forestPlaysCard : Claim7 := { stood := { row := forestPlaysRow, standIns := [], harness := (true, "5769e7eb96a54cc1276eb36a5c3e972e4fcd27ba16a8eb675d419389990d1fe4"), looks := true }, kinds := [], alts := [], laidByText := true, laidKinds := [.sentinel, .sentinel, .sentinel, .sentinel, .sentinel, .sentinel, .sentinel, .sentinel, .sentinel, .sentinel, .sentinel, .sentinel, .sentinel, .sentinel, .sentinel, .sentinel], laidTests := true, laidLooks := .later }
def ForestPlaysCardSaid : Prop := Claim7.holds Tryz.pinned (.plain (OpenSpec.ofChange forestPlaysSpec)) forestPlaysCard

/-- THE TIED CARD OF 'tableaulaw17.ForestUnseen'. -/
def forestUnseenCard : Claim7 := { stood := { row := forestUnseenRow, standIns := [], harness := (true, "5769e7eb96a54cc1276eb36a5c3e972e4fcd27ba16a8eb675d419389990d1fe4"), looks := true }, kinds := [], alts := [], laidByText := true, laidKinds := [.sentinel, .sentinel, .sentinel, .sentinel, .sentinel, .sentinel, .sentinel, .sentinel, .sentinel, .sentinel, .sentinel, .sentinel, .sentinel, .sentinel, .sentinel, .sentinel], laidTests := true, laidLooks := .later }
def ForestUnseenCardSaid : Prop := Claim7.holds Tryz.pinned (.plain (OpenSpec.ofChange forestUnseenSpec)) forestUnseenCard

/-- THE SECOND FORM's CARD OF 'tableaulaw17.ForestPlays'. -/
def forestPlaysUptoCard : Claim7 := { stood := { row := forestPlaysUptoRow, standIns := [], harness := (true, "5769e7eb96a54cc1276eb36a5c3e972e4fcd27ba16a8eb675d419389990d1fe4"), looks := true }, kinds := [], alts := [], laidByText := true, laidKinds := [.sentinel, .sentinel, .sentinel, .sentinel, .sentinel, .sentinel, .sentinel, .sentinel, .sentinel, .sentinel, .sentinel, .sentinel, .sentinel, .sentinel, .sentinel, .sentinel], laidTests := true, laidLooks := .later }
def ForestPlaysUptoCardSaid : Prop := Claim7.holds Tryz.pinned (.plain (OpenSpec.upto forestPlaysSpec)) forestPlaysUptoCard

/-- THE SECOND FORM's CARD OF 'tableaulaw17.ForestUnseen'. -/
def forestUnseenUptoCard : Claim7 := { stood := { row := forestUnseenUptoRow, standIns := [], harness := (true, "5769e7eb96a54cc1276eb36a5c3e972e4fcd27ba16a8eb675d419389990d1fe4"), looks := true }, kinds := [], alts := [], laidByText := true, laidKinds := [.sentinel, .sentinel, .sentinel, .sentinel, .sentinel, .sentinel, .sentinel, .sentinel, .sentinel, .sentinel, .sentinel, .sentinel, .sentinel, .sentinel, .sentinel, .sentinel], laidTests := true, laidLooks := .later }
def ForestUnseenUptoCardSaid : Prop := Claim7.holds Tryz.pinned (.plain (OpenSpec.upto forestUnseenSpec)) forestUnseenUptoCard
end Rows
end Go.Proofs.YtdgknofpkafppaaGreatDoor
