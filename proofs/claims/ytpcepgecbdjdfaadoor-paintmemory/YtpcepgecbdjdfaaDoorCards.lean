/-
  DERIVED. GIVEN WITH THE SEED: THE CARDS: each row of YtpcepgecbdjdfaaDoorRows.lean that lists a variable, with what it lists TIED to the program's text (the seventh form; the later family's looks); each row that meets fmt, with fmt's text TOLD by the authors' own Lean function (tested against real Go, not proved from fmt's source: count such statements apart). THE CARD IS WHAT COUNTS. Prove the row's statement (the work); the ties are given (YtpcepgecbdjdfaaDoorTie.lean); close each card by the builder's one call (the guide's Derived/Test/ToyasCard.lean, 'card_holds'). Laid BY PROGRAM, IN A SANDBOX (cutbox-door.mjs). By AI agents, Wed Nov 11 2026. No macro, syntax, notation, axiom, sorry.
-/
import Derived.Test.YtpcepgecbdjdfaaDoorRows
import GoSem.ClaimSeven
namespace Go.Proofs.YtpcepgecbdjdfaaDoor
namespace Rows

/-- THE TIED CARD OF 'tableaulaw23.PaintLoads'. -/
def paintLoadsCard : Claim7 := { stood := { row := paintLoadsRow, standIns := [], harness := (true, "fd65fcc25dc1efe01412137ded5be221aa33602cc473f5e6cf2ccceaa3035fe6"), looks := false }, kinds := [], alts := [], laidByText := true, laidKinds := [.sentinel, .sentinel, .sentinel, .sentinel], laidTests := true, laidLooks := .later }
def PaintLoadsCardSaid : Prop := Claim7.holds Tryd.pinned (.plain (OpenSpec.ofChange paintLoadsSpec)) paintLoadsCard

/-- THE TIED CARD OF 'tableaulaw23.PaintPlays'. -/
def paintPlaysCard : Claim7 := { stood := { row := paintPlaysRow, standIns := [], harness := (true, "fd65fcc25dc1efe01412137ded5be221aa33602cc473f5e6cf2ccceaa3035fe6"), looks := false }, kinds := [], alts := [], laidByText := true, laidKinds := [.sentinel], laidTests := true, laidLooks := .later }
def PaintPlaysCardSaid : Prop := Claim7.holds Tryd.pinned (.plain (OpenSpec.ofChange paintPlaysSpec)) paintPlaysCard

/-- THE TIED CARD OF 'tableaulaw23.PaintFolds'. -/
def paintFoldsCard : Claim7 := { stood := { row := paintFoldsRow, standIns := [], harness := (true, "fd65fcc25dc1efe01412137ded5be221aa33602cc473f5e6cf2ccceaa3035fe6"), looks := false }, kinds := [], alts := [], laidByText := true, laidKinds := [.sentinel], laidTests := true, laidLooks := .later }
def PaintFoldsCardSaid : Prop := Claim7.holds Tryd.pinned (.plain (OpenSpec.ofChange paintFoldsSpec)) paintFoldsCard

/-- THE TIED CARD OF 'tableaulaw23.PaintLater'. -/
def paintLaterCard : Claim7 := { stood := { row := paintLaterRow, standIns := [], harness := (true, "fd65fcc25dc1efe01412137ded5be221aa33602cc473f5e6cf2ccceaa3035fe6"), looks := false }, kinds := [], alts := [], laidByText := true, laidKinds := [.sentinel], laidTests := true, laidLooks := .later }
def PaintLaterCardSaid : Prop := Claim7.holds Tryd.pinned (.plain (OpenSpec.ofChange paintLaterSpec)) paintLaterCard

/-- THE TIED CARD OF 'tableaulaw23.PaintMemory'. -/
def paintMemoryCard : Claim7 := { stood := { row := paintMemoryRow, standIns := [], harness := (true, "fd65fcc25dc1efe01412137ded5be221aa33602cc473f5e6cf2ccceaa3035fe6"), looks := false }, kinds := [], alts := [], laidByText := true, laidKinds := [.sentinel, .sentinel, .sentinel, .sentinel], laidTests := true, laidLooks := .later }
def PaintMemoryCardSaid : Prop := Claim7.holds Tryd.pinned (.plain (OpenSpec.ofChange paintMemorySpec)) paintMemoryCard

/-- THE SECOND FORM's CARD OF 'tableaulaw23.PaintLoads'. -/
def paintLoadsUptoCard : Claim7 := { stood := { row := paintLoadsUptoRow, standIns := [], harness := (true, "fd65fcc25dc1efe01412137ded5be221aa33602cc473f5e6cf2ccceaa3035fe6"), looks := false }, kinds := [], alts := [], laidByText := true, laidKinds := [.sentinel, .sentinel, .sentinel, .sentinel], laidTests := true, laidLooks := .later }
def PaintLoadsUptoCardSaid : Prop := Claim7.holds Tryd.pinned (.plain (OpenSpec.upto paintLoadsSpec)) paintLoadsUptoCard

/-- THE SECOND FORM's CARD OF 'tableaulaw23.PaintPlays'. -/
def paintPlaysUptoCard : Claim7 := { stood := { row := paintPlaysUptoRow, standIns := [], harness := (true, "fd65fcc25dc1efe01412137ded5be221aa33602cc473f5e6cf2ccceaa3035fe6"), looks := false }, kinds := [], alts := [], laidByText := true, laidKinds := [.sentinel], laidTests := true, laidLooks := .later }
def PaintPlaysUptoCardSaid : Prop := Claim7.holds Tryd.pinned (.plain (OpenSpec.upto paintPlaysSpec)) paintPlaysUptoCard

/-- THE SECOND FORM's CARD OF 'tableaulaw23.PaintFolds'. -/
def paintFoldsUptoCard : Claim7 := { stood := { row := paintFoldsUptoRow, standIns := [], harness := (true, "fd65fcc25dc1efe01412137ded5be221aa33602cc473f5e6cf2ccceaa3035fe6"), looks := false }, kinds := [], alts := [], laidByText := true, laidKinds := [.sentinel], laidTests := true, laidLooks := .later }
def PaintFoldsUptoCardSaid : Prop := Claim7.holds Tryd.pinned (.plain (OpenSpec.upto paintFoldsSpec)) paintFoldsUptoCard

/-- THE SECOND FORM's CARD OF 'tableaulaw23.PaintLater'. -/
def paintLaterUptoCard : Claim7 := { stood := { row := paintLaterUptoRow, standIns := [], harness := (true, "fd65fcc25dc1efe01412137ded5be221aa33602cc473f5e6cf2ccceaa3035fe6"), looks := false }, kinds := [], alts := [], laidByText := true, laidKinds := [.sentinel], laidTests := true, laidLooks := .later }
def PaintLaterUptoCardSaid : Prop := Claim7.holds Tryd.pinned (.plain (OpenSpec.upto paintLaterSpec)) paintLaterUptoCard

/-- THE SECOND FORM's CARD OF 'tableaulaw23.PaintMemory'. -/
def paintMemoryUptoCard : Claim7 := { stood := { row := paintMemoryUptoRow, standIns := [], harness := (true, "fd65fcc25dc1efe01412137ded5be221aa33602cc473f5e6cf2ccceaa3035fe6"), looks := false }, kinds := [], alts := [], laidByText := true, laidKinds := [.sentinel, .sentinel, .sentinel, .sentinel], laidTests := true, laidLooks := .later }
def PaintMemoryUptoCardSaid : Prop := Claim7.holds Tryd.pinned (.plain (OpenSpec.upto paintMemorySpec)) paintMemoryUptoCard
end Rows
end Go.Proofs.YtpcepgecbdjdfaaDoor
