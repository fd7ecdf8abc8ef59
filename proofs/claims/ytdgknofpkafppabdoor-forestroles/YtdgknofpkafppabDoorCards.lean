/-
  DERIVED. GIVEN WITH THE SEED: THE CARDS: each row of YtdgknofpkafppabDoorRows.lean that lists a variable, with what it lists TIED to the program's text (the seventh form; the later family's looks); each row that meets fmt, with fmt's text TOLD by the authors' own Lean function (tested against real Go, not proved from fmt's source: count such statements apart). THE CARD IS WHAT COUNTS. Prove the row's statement (the work); the ties are given (YtdgknofpkafppabDoorTie.lean); close each card by the builder's one call (the guide's Derived/Test/ToyasCard.lean, 'card_holds'). Laid BY PROGRAM, IN A SANDBOX (cutbox-door.mjs). By AI agents, Wed Nov 11 2026. No macro, syntax, notation, axiom, sorry.
-/
import Derived.Test.YtdgknofpkafppabDoorRows
import GoSem.ClaimSeven
namespace Go.Proofs.YtdgknofpkafppabDoor
namespace Rows

/-- THE TIED CARD OF 'tableaulaw17.ForestRoles'. -/
def forestRolesCard : Claim7 := { stood := { row := forestRolesRow, standIns := [], harness := (true, "17f6366c440943ef03b8ac7782f7d6efc217c309cf988b4e55e5df8e950967fa"), looks := true }, kinds := [], alts := [], laidByText := true, laidKinds := [.sentinel, .sentinel, .sentinel, .sentinel, .sentinel, .sentinel, .sentinel, .sentinel, .sentinel, .sentinel, .sentinel, .sentinel, .sentinel, .sentinel, .sentinel, .sentinel], laidTests := true, laidLooks := .later }
def ForestRolesCardSaid : Prop := Claim7.holds Tryd.pinned (.plain (OpenSpec.ofChange forestRolesSpec)) forestRolesCard

/-- THE SECOND FORM's CARD OF 'tableaulaw17.ForestRoles'. -/
def forestRolesUptoCard : Claim7 := { stood := { row := forestRolesUptoRow, standIns := [], harness := (true, "17f6366c440943ef03b8ac7782f7d6efc217c309cf988b4e55e5df8e950967fa"), looks := true }, kinds := [], alts := [], laidByText := true, laidKinds := [.sentinel, .sentinel, .sentinel, .sentinel, .sentinel, .sentinel, .sentinel, .sentinel, .sentinel, .sentinel, .sentinel, .sentinel, .sentinel, .sentinel, .sentinel, .sentinel], laidTests := true, laidLooks := .later }
def ForestRolesUptoCardSaid : Prop := Claim7.holds Tryd.pinned (.plain (OpenSpec.upto forestRolesSpec)) forestRolesUptoCard
end Rows
end Go.Proofs.YtdgknofpkafppabDoor
