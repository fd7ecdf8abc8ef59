/-
  DERIVED. GIVEN WITH THE SEED: THE CARDS: each row of YtfbebifbfpkdaaaDoorRows.lean that lists a variable, with what it lists TIED to the program's text (the seventh form; the later family's looks); each row that meets fmt, with fmt's text TOLD by the authors' own Lean function (tested against real Go, not proved from fmt's source: count such statements apart). THE CARD IS WHAT COUNTS. Prove the row's statement (the work); the ties are given (YtfbebifbfpkdaaaDoorTie.lean); close each card by the builder's one call (the guide's Derived/Test/ToyasCard.lean, 'card_holds'). Laid BY PROGRAM, IN A SANDBOX (cutbox-door.mjs). By AI agents, Wed Nov 11 2026. No macro, syntax, notation, axiom, sorry.
-/
import Derived.Test.YtfbebifbfpkdaaaDoorRows
import GoSem.ClaimSeven
namespace Go.Proofs.YtfbebifbfpkdaaaDoor
namespace Rows

/-- THE TIED CARD OF 'tableaulaw05.ReaderFeeds'. -/
def readerFeedsCard : Claim7 := { stood := { row := readerFeedsRow, standIns := [], harness := (true, "d266f03a12afdee76b2001e0421a912ec19212d192f5195653949f5b2a6cf393"), looks := true }, kinds := [], alts := [], laidByText := true, laidKinds := [.sentinel, .sentinel, .sentinel, .sentinel, .sentinel, .sentinel, .sentinel, .sentinel, .sentinel, .sentinel, .sentinel, .sentinel, .sentinel, .sentinel, .sentinel, .sentinel], laidTests := true, laidLooks := .later }
def ReaderFeedsCardSaid : Prop := Claim7.holds Tryd.pinned (.plain (OpenSpec.ofChange readerFeedsSpec)) readerFeedsCard

/-- THE TIED CARD OF 'tableaulaw05.ReaderCuts'. -/
def readerCutsCard : Claim7 := { stood := { row := readerCutsRow, standIns := [], harness := (true, "d266f03a12afdee76b2001e0421a912ec19212d192f5195653949f5b2a6cf393"), looks := true }, kinds := [], alts := [], laidByText := true, laidKinds := [.sentinel, .sentinel, .sentinel, .sentinel, .sentinel, .sentinel, .sentinel, .sentinel, .sentinel, .sentinel, .sentinel, .sentinel, .sentinel, .sentinel, .sentinel, .sentinel], laidTests := true, laidLooks := .later }
def ReaderCutsCardSaid : Prop := Claim7.holds Tryd.pinned (.plain (OpenSpec.ofChange readerCutsSpec)) readerCutsCard

/-- THE TIED CARD OF 'tableaulaw05.ReaderMany'. -/
def readerManyCard : Claim7 := { stood := { row := readerManyRow, standIns := [], harness := (true, "d266f03a12afdee76b2001e0421a912ec19212d192f5195653949f5b2a6cf393"), looks := true }, kinds := [], alts := [], laidByText := true, laidKinds := [.sentinel, .sentinel, .sentinel, .sentinel, .sentinel, .sentinel, .sentinel, .sentinel, .sentinel, .sentinel, .sentinel, .sentinel, .sentinel, .sentinel, .sentinel, .sentinel], laidTests := true, laidLooks := .later }
def ReaderManyCardSaid : Prop := Claim7.holds Tryd.pinned (.plain (OpenSpec.ofChange readerManySpec)) readerManyCard

/-- THE TIED CARD OF 'tableaulaw05.ReaderStops'. -/
def readerStopsCard : Claim7 := { stood := { row := readerStopsRow, standIns := [], harness := (true, "d266f03a12afdee76b2001e0421a912ec19212d192f5195653949f5b2a6cf393"), looks := true }, kinds := [], alts := [], laidByText := true, laidKinds := [.sentinel, .sentinel, .sentinel, .sentinel, .sentinel, .sentinel, .sentinel, .sentinel, .sentinel, .sentinel, .sentinel, .sentinel, .sentinel, .sentinel, .sentinel, .sentinel], laidTests := true, laidLooks := .later }
def ReaderStopsCardSaid : Prop := Claim7.holds Tryd.pinned (.plain (OpenSpec.ofChange readerStopsSpec)) readerStopsCard

/-- THE SECOND FORM's CARD OF 'tableaulaw05.ReaderFeeds'. -/
def readerFeedsUptoCard : Claim7 := { stood := { row := readerFeedsUptoRow, standIns := [], harness := (true, "d266f03a12afdee76b2001e0421a912ec19212d192f5195653949f5b2a6cf393"), looks := true }, kinds := [], alts := [], laidByText := true, laidKinds := [.sentinel, .sentinel, .sentinel, .sentinel, .sentinel, .sentinel, .sentinel, .sentinel, .sentinel, .sentinel, .sentinel, .sentinel, .sentinel, .sentinel, .sentinel, .sentinel], laidTests := true, laidLooks := .later }
def ReaderFeedsUptoCardSaid : Prop := Claim7.holds Tryd.pinned (.plain (OpenSpec.upto readerFeedsSpec)) readerFeedsUptoCard

/-- THE SECOND FORM's CARD OF 'tableaulaw05.ReaderCuts'. -/
def readerCutsUptoCard : Claim7 := { stood := { row := readerCutsUptoRow, standIns := [], harness := (true, "d266f03a12afdee76b2001e0421a912ec19212d192f5195653949f5b2a6cf393"), looks := true }, kinds := [], alts := [], laidByText := true, laidKinds := [.sentinel, .sentinel, .sentinel, .sentinel, .sentinel, .sentinel, .sentinel, .sentinel, .sentinel, .sentinel, .sentinel, .sentinel, .sentinel, .sentinel, .sentinel, .sentinel], laidTests := true, laidLooks := .later }
def ReaderCutsUptoCardSaid : Prop := Claim7.holds Tryd.pinned (.plain (OpenSpec.upto readerCutsSpec)) readerCutsUptoCard

/-- THE SECOND FORM's CARD OF 'tableaulaw05.ReaderMany'. -/
def readerManyUptoCard : Claim7 := { stood := { row := readerManyUptoRow, standIns := [], harness := (true, "d266f03a12afdee76b2001e0421a912ec19212d192f5195653949f5b2a6cf393"), looks := true }, kinds := [], alts := [], laidByText := true, laidKinds := [.sentinel, .sentinel, .sentinel, .sentinel, .sentinel, .sentinel, .sentinel, .sentinel, .sentinel, .sentinel, .sentinel, .sentinel, .sentinel, .sentinel, .sentinel, .sentinel], laidTests := true, laidLooks := .later }
def ReaderManyUptoCardSaid : Prop := Claim7.holds Tryd.pinned (.plain (OpenSpec.upto readerManySpec)) readerManyUptoCard

/-- THE SECOND FORM's CARD OF 'tableaulaw05.ReaderStops'. -/
def readerStopsUptoCard : Claim7 := { stood := { row := readerStopsUptoRow, standIns := [], harness := (true, "d266f03a12afdee76b2001e0421a912ec19212d192f5195653949f5b2a6cf393"), looks := true }, kinds := [], alts := [], laidByText := true, laidKinds := [.sentinel, .sentinel, .sentinel, .sentinel, .sentinel, .sentinel, .sentinel, .sentinel, .sentinel, .sentinel, .sentinel, .sentinel, .sentinel, .sentinel, .sentinel, .sentinel], laidTests := true, laidLooks := .later }
def ReaderStopsUptoCardSaid : Prop := Claim7.holds Tryd.pinned (.plain (OpenSpec.upto readerStopsSpec)) readerStopsUptoCard
end Rows
end Go.Proofs.YtfbebifbfpkdaaaDoor
