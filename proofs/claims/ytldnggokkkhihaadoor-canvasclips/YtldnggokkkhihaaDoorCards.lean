/-
  DERIVED. GIVEN WITH THE SEED: THE CARDS: each row of YtldnggokkkhihaaDoorRows.lean that lists a variable, with what it lists TIED to the program's text (the seventh form; the later family's looks); each row that meets fmt, with fmt's text TOLD by the authors' own Lean function (tested against real Go, not proved from fmt's source: count such statements apart). THE CARD IS WHAT COUNTS. Prove the row's statement (the work); the ties are given (YtldnggokkkhihaaDoorTie.lean); close each card by the builder's one call (the guide's Derived/Test/ToyasCard.lean, 'card_holds'). Laid BY PROGRAM, IN A SANDBOX (cutbox-door.mjs). By AI agents, Wed Nov 11 2026. No macro, syntax, notation, axiom, sorry.
-/
import Derived.Test.YtldnggokkkhihaaDoorRows
import GoSem.ClaimSeven
namespace Go.Proofs.YtldnggokkkhihaaDoor
namespace Rows

/-- THE TIED CARD OF 'tableaulaw14.CanvasPlays'. -/
def canvasPlaysCard : Claim7 := { stood := { row := canvasPlaysRow, standIns := [], harness := (true, "e787ec2a6973428784d3d4a04da88612159f6f2f6a1c2eb978f2356700630eed"), looks := false }, kinds := [], alts := [], laidByText := true, laidKinds := [.sentinel], laidTests := true, laidLooks := .later }
def CanvasPlaysCardSaid : Prop := Claim7.holds Tryd.pinned (.plain (OpenSpec.ofChange canvasPlaysSpec)) canvasPlaysCard

/-- THE TIED CARD OF 'tableaulaw14.CanvasClips'. -/
def canvasClipsCard : Claim7 := { stood := { row := canvasClipsRow, standIns := [], harness := (true, "e787ec2a6973428784d3d4a04da88612159f6f2f6a1c2eb978f2356700630eed"), looks := false }, kinds := [], alts := [], laidByText := true, laidKinds := [.sentinel], laidTests := true, laidLooks := .later }
def CanvasClipsCardSaid : Prop := Claim7.holds Tryd.pinned (.plain (OpenSpec.ofChange canvasClipsSpec)) canvasClipsCard

/-- THE TIED CARD OF 'tableaulaw14.CanvasCopies'. -/
def canvasCopiesCard : Claim7 := { stood := { row := canvasCopiesRow, standIns := [], harness := (true, "e787ec2a6973428784d3d4a04da88612159f6f2f6a1c2eb978f2356700630eed"), looks := false }, kinds := [], alts := [], laidByText := true, laidKinds := [.sentinel], laidTests := true, laidLooks := .later }
def CanvasCopiesCardSaid : Prop := Claim7.holds Tryd.pinned (.plain (OpenSpec.ofChange canvasCopiesSpec)) canvasCopiesCard

/-- THE TIED CARD OF 'tableaulaw14.CanvasFills'. -/
def canvasFillsCard : Claim7 := { stood := { row := canvasFillsRow, standIns := [], harness := (true, "e787ec2a6973428784d3d4a04da88612159f6f2f6a1c2eb978f2356700630eed"), looks := false }, kinds := [], alts := [], laidByText := true, laidKinds := [.sentinel], laidTests := true, laidLooks := .later }
def CanvasFillsCardSaid : Prop := Claim7.holds Tryd.pinned (.plain (OpenSpec.ofChange canvasFillsSpec)) canvasFillsCard

/-- THE SECOND FORM's CARD OF 'tableaulaw14.CanvasPlays'. -/
def canvasPlaysUptoCard : Claim7 := { stood := { row := canvasPlaysUptoRow, standIns := [], harness := (true, "e787ec2a6973428784d3d4a04da88612159f6f2f6a1c2eb978f2356700630eed"), looks := false }, kinds := [], alts := [], laidByText := true, laidKinds := [.sentinel], laidTests := true, laidLooks := .later }
def CanvasPlaysUptoCardSaid : Prop := Claim7.holds Tryd.pinned (.plain (OpenSpec.upto canvasPlaysSpec)) canvasPlaysUptoCard

/-- THE SECOND FORM's CARD OF 'tableaulaw14.CanvasClips'. -/
def canvasClipsUptoCard : Claim7 := { stood := { row := canvasClipsUptoRow, standIns := [], harness := (true, "e787ec2a6973428784d3d4a04da88612159f6f2f6a1c2eb978f2356700630eed"), looks := false }, kinds := [], alts := [], laidByText := true, laidKinds := [.sentinel], laidTests := true, laidLooks := .later }
def CanvasClipsUptoCardSaid : Prop := Claim7.holds Tryd.pinned (.plain (OpenSpec.upto canvasClipsSpec)) canvasClipsUptoCard

/-- THE SECOND FORM's CARD OF 'tableaulaw14.CanvasCopies'. -/
def canvasCopiesUptoCard : Claim7 := { stood := { row := canvasCopiesUptoRow, standIns := [], harness := (true, "e787ec2a6973428784d3d4a04da88612159f6f2f6a1c2eb978f2356700630eed"), looks := false }, kinds := [], alts := [], laidByText := true, laidKinds := [.sentinel], laidTests := true, laidLooks := .later }
def CanvasCopiesUptoCardSaid : Prop := Claim7.holds Tryd.pinned (.plain (OpenSpec.upto canvasCopiesSpec)) canvasCopiesUptoCard

/-- THE SECOND FORM's CARD OF 'tableaulaw14.CanvasFills'. -/
def canvasFillsUptoCard : Claim7 := { stood := { row := canvasFillsUptoRow, standIns := [], harness := (true, "e787ec2a6973428784d3d4a04da88612159f6f2f6a1c2eb978f2356700630eed"), looks := false }, kinds := [], alts := [], laidByText := true, laidKinds := [.sentinel], laidTests := true, laidLooks := .later }
def CanvasFillsUptoCardSaid : Prop := Claim7.holds Tryd.pinned (.plain (OpenSpec.upto canvasFillsSpec)) canvasFillsUptoCard
end Rows
end Go.Proofs.YtldnggokkkhihaaDoor
