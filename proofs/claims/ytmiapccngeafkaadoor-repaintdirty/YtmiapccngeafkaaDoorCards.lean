/-
  DERIVED. GIVEN WITH THE SEED: THE CARDS: each row of YtmiapccngeafkaaDoorRows.lean that lists a variable, with what it lists TIED to the program's text (the seventh form; the later family's looks); each row that meets fmt, with fmt's text TOLD by the authors' own Lean function (tested against real Go, not proved from fmt's source: count such statements apart). THE CARD IS WHAT COUNTS. Prove the row's statement (the work); the ties are given (YtmiapccngeafkaaDoorTie.lean); close each card by the builder's one call (the guide's Derived/Test/ToyasCard.lean, 'card_holds'). Laid BY PROGRAM, IN A SANDBOX (cutbox-door.mjs). By AI agents, Wed Nov 11 2026. No macro, syntax, notation, axiom, sorry.
-/
import Derived.Test.YtmiapccngeafkaaDoorRows
import GoSem.ClaimSeven
namespace Go.Proofs.YtmiapccngeafkaaDoor
namespace Rows

/-- THE TIED CARD OF 'tableaulaw24.RepaintDirty'. -/
def repaintDirtyCard : Claim7 := { stood := { row := repaintDirtyRow, standIns := [], harness := (true, "760a5f9fadd860b84ab7241930b8f7ac43a0a224fe0c1236fa6e3d797af50423"), looks := false }, kinds := [], alts := [], laidByText := true, laidKinds := [.sentinel], laidTests := true, laidLooks := .later }
def RepaintDirtyCardSaid : Prop := Claim7.holds Tryd.pinned (.plain (OpenSpec.ofChange repaintDirtySpec)) repaintDirtyCard

/-- THE SECOND FORM's CARD OF 'tableaulaw24.RepaintDirty'. -/
def repaintDirtyUptoCard : Claim7 := { stood := { row := repaintDirtyUptoRow, standIns := [], harness := (true, "760a5f9fadd860b84ab7241930b8f7ac43a0a224fe0c1236fa6e3d797af50423"), looks := false }, kinds := [], alts := [], laidByText := true, laidKinds := [.sentinel], laidTests := true, laidLooks := .later }
def RepaintDirtyUptoCardSaid : Prop := Claim7.holds Tryd.pinned (.plain (OpenSpec.upto repaintDirtySpec)) repaintDirtyUptoCard
end Rows
end Go.Proofs.YtmiapccngeafkaaDoor
