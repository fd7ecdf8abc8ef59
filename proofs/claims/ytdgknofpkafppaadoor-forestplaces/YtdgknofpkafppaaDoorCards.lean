/-
  DERIVED. GIVEN WITH THE SEED: THE CARDS: each row of YtdgknofpkafppaaDoorRows.lean that lists a variable, with what it lists TIED to the program's text (the seventh form; the later family's looks); each row that meets fmt, with fmt's text TOLD by the authors' own Lean function (tested against real Go, not proved from fmt's source: count such statements apart). THE CARD IS WHAT COUNTS. Prove the row's statement (the work); the ties are given (YtdgknofpkafppaaDoorTie.lean); close each card by the builder's one call (the guide's Derived/Test/ToyasCard.lean, 'card_holds'). Laid BY PROGRAM, IN A SANDBOX (cutbox-door.mjs). By AI agents, Wed Nov 11 2026. No macro, syntax, notation, axiom, sorry.
-/
import Derived.Test.YtdgknofpkafppaaDoorRows
import GoSem.ClaimSeven
namespace Go.Proofs.YtdgknofpkafppaaDoor
namespace Rows

/-- THE TIED CARD OF 'tableaulaw17.ForestSyncs'. -/
def forestSyncsCard : Claim7 := { stood := { row := forestSyncsRow, standIns := [], harness := (true, "da53af0cceacc6b58cc16215ab365ef9f33d8c6dcd1212c9836611041892b817"), looks := true }, kinds := [], alts := [], laidByText := true, laidKinds := [.sentinel, .sentinel, .sentinel, .sentinel, .sentinel], laidTests := true, laidLooks := .later }
def ForestSyncsCardSaid : Prop := Claim7.holds Tryd.pinned (.plain (OpenSpec.ofChange forestSyncsSpec)) forestSyncsCard

/-- THE TIED CARD OF 'tableaulaw17.ForestDesyncs'. -/
def forestDesyncsCard : Claim7 := { stood := { row := forestDesyncsRow, standIns := [], harness := (true, "da53af0cceacc6b58cc16215ab365ef9f33d8c6dcd1212c9836611041892b817"), looks := true }, kinds := [], alts := [], laidByText := true, laidKinds := [.sentinel, .sentinel, .sentinel, .sentinel, .sentinel], laidTests := true, laidLooks := .later }
def ForestDesyncsCardSaid : Prop := Claim7.holds Tryd.pinned (.plain (OpenSpec.ofChange forestDesyncsSpec)) forestDesyncsCard

/-- THE TIED CARD OF 'tableaulaw17.ForestPlaces'. -/
def forestPlacesCard : Claim7 := { stood := { row := forestPlacesRow, standIns := [], harness := (true, "da53af0cceacc6b58cc16215ab365ef9f33d8c6dcd1212c9836611041892b817"), looks := true }, kinds := [], alts := [], laidByText := true, laidKinds := [.sentinel, .sentinel, .sentinel, .sentinel, .sentinel], laidTests := true, laidLooks := .later }
def ForestPlacesCardSaid : Prop := Claim7.holds Tryd.pinned (.plain (OpenSpec.ofChange forestPlacesSpec)) forestPlacesCard

/-- THE TIED CARD OF 'tableaulaw17.ForestDrops'. -/
def forestDropsCard : Claim7 := { stood := { row := forestDropsRow, standIns := [], harness := (true, "da53af0cceacc6b58cc16215ab365ef9f33d8c6dcd1212c9836611041892b817"), looks := true }, kinds := [], alts := [], laidByText := true, laidKinds := [.sentinel, .sentinel, .sentinel, .sentinel, .sentinel], laidTests := true, laidLooks := .later }
def ForestDropsCardSaid : Prop := Claim7.holds Tryd.pinned (.plain (OpenSpec.ofChange forestDropsSpec)) forestDropsCard

/-- THE SECOND FORM's CARD OF 'tableaulaw17.ForestSyncs'. -/
def forestSyncsUptoCard : Claim7 := { stood := { row := forestSyncsUptoRow, standIns := [], harness := (true, "da53af0cceacc6b58cc16215ab365ef9f33d8c6dcd1212c9836611041892b817"), looks := true }, kinds := [], alts := [], laidByText := true, laidKinds := [.sentinel, .sentinel, .sentinel, .sentinel, .sentinel], laidTests := true, laidLooks := .later }
def ForestSyncsUptoCardSaid : Prop := Claim7.holds Tryd.pinned (.plain (OpenSpec.upto forestSyncsSpec)) forestSyncsUptoCard

/-- THE SECOND FORM's CARD OF 'tableaulaw17.ForestDesyncs'. -/
def forestDesyncsUptoCard : Claim7 := { stood := { row := forestDesyncsUptoRow, standIns := [], harness := (true, "da53af0cceacc6b58cc16215ab365ef9f33d8c6dcd1212c9836611041892b817"), looks := true }, kinds := [], alts := [], laidByText := true, laidKinds := [.sentinel, .sentinel, .sentinel, .sentinel, .sentinel], laidTests := true, laidLooks := .later }
def ForestDesyncsUptoCardSaid : Prop := Claim7.holds Tryd.pinned (.plain (OpenSpec.upto forestDesyncsSpec)) forestDesyncsUptoCard

/-- THE SECOND FORM's CARD OF 'tableaulaw17.ForestPlaces'. -/
def forestPlacesUptoCard : Claim7 := { stood := { row := forestPlacesUptoRow, standIns := [], harness := (true, "da53af0cceacc6b58cc16215ab365ef9f33d8c6dcd1212c9836611041892b817"), looks := true }, kinds := [], alts := [], laidByText := true, laidKinds := [.sentinel, .sentinel, .sentinel, .sentinel, .sentinel], laidTests := true, laidLooks := .later }
def ForestPlacesUptoCardSaid : Prop := Claim7.holds Tryd.pinned (.plain (OpenSpec.upto forestPlacesSpec)) forestPlacesUptoCard

/-- THE SECOND FORM's CARD OF 'tableaulaw17.ForestDrops'. -/
def forestDropsUptoCard : Claim7 := { stood := { row := forestDropsUptoRow, standIns := [], harness := (true, "da53af0cceacc6b58cc16215ab365ef9f33d8c6dcd1212c9836611041892b817"), looks := true }, kinds := [], alts := [], laidByText := true, laidKinds := [.sentinel, .sentinel, .sentinel, .sentinel, .sentinel], laidTests := true, laidLooks := .later }
def ForestDropsUptoCardSaid : Prop := Claim7.holds Tryd.pinned (.plain (OpenSpec.upto forestDropsSpec)) forestDropsUptoCard
end Rows
end Go.Proofs.YtdgknofpkafppaaDoor
