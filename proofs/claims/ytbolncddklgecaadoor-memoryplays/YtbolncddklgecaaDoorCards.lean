/-
  DERIVED. GIVEN WITH THE SEED: THE CARDS: each row of YtbolncddklgecaaDoorRows.lean that lists a variable, with what it lists TIED to the program's text (the seventh form; the later family's looks); each row that meets fmt, with fmt's text TOLD by the authors' own Lean function (tested against real Go, not proved from fmt's source: count such statements apart). THE CARD IS WHAT COUNTS. Prove the row's statement (the work); the ties are given (YtbolncddklgecaaDoorTie.lean); close each card by the builder's one call (the guide's Derived/Test/ToyasCard.lean, 'card_holds'). Laid BY PROGRAM, IN A SANDBOX (cutbox-door.mjs). By AI agents, Wed Nov 11 2026. No macro, syntax, notation, axiom, sorry.
-/
import Derived.Test.YtbolncddklgecaaDoorRows
import GoSem.ClaimSeven
namespace Go.Proofs.YtbolncddklgecaaDoor
namespace Rows

/-- THE TIED CARD OF 'tableaulaw10.MemoryPlays'. -/
def memoryPlaysCard : Claim7 := { stood := { row := memoryPlaysRow, standIns := [], harness := (true, "5d1db8f5337475efd16338d82766228ab33040a9a0a9ddfe67eb726df6a95db0"), looks := true }, kinds := [], alts := [], laidByText := true, laidKinds := [.sentinel, .sentinel, .sentinel, .sentinel, .sentinel, .sentinel, .sentinel, .sentinel, .sentinel, .sentinel, .sentinel, .sentinel, .sentinel, .sentinel, .sentinel, .sentinel], laidTests := true, laidLooks := .later }
def MemoryPlaysCardSaid : Prop := Claim7.holds Tryd.pinned (.plain (OpenSpec.ofChange memoryPlaysSpec)) memoryPlaysCard

/-- THE TIED CARD OF 'tableaulaw10.MemoryKeeps'. -/
def memoryKeepsCard : Claim7 := { stood := { row := memoryKeepsRow, standIns := [], harness := (true, "5d1db8f5337475efd16338d82766228ab33040a9a0a9ddfe67eb726df6a95db0"), looks := true }, kinds := [], alts := [], laidByText := true, laidKinds := [.sentinel, .sentinel, .sentinel, .sentinel, .sentinel, .sentinel, .sentinel, .sentinel, .sentinel, .sentinel, .sentinel, .sentinel, .sentinel, .sentinel, .sentinel, .sentinel], laidTests := true, laidLooks := .later }
def MemoryKeepsCardSaid : Prop := Claim7.holds Tryd.pinned (.plain (OpenSpec.ofChange memoryKeepsSpec)) memoryKeepsCard

/-- THE TIED CARD OF 'tableaulaw10.MemoryApart'. -/
def memoryApartCard : Claim7 := { stood := { row := memoryApartRow, standIns := [], harness := (true, "5d1db8f5337475efd16338d82766228ab33040a9a0a9ddfe67eb726df6a95db0"), looks := true }, kinds := [], alts := [], laidByText := true, laidKinds := [.sentinel, .sentinel, .sentinel], laidTests := true, laidLooks := .later }
def MemoryApartCardSaid : Prop := Claim7.holds Tryd.pinned (.plain (OpenSpec.ofChange memoryApartSpec)) memoryApartCard

/-- THE TIED CARD OF 'tableaulaw10.MemoryWords'. -/
def memoryWordsCard : Claim7 := { stood := { row := memoryWordsRow, standIns := [], harness := (true, "5d1db8f5337475efd16338d82766228ab33040a9a0a9ddfe67eb726df6a95db0"), looks := true }, kinds := [], alts := [], laidByText := true, laidKinds := [.sentinel, .sentinel, .sentinel], laidTests := true, laidLooks := .later }
def MemoryWordsCardSaid : Prop := Claim7.holds Tryd.pinned (.plain (OpenSpec.ofChange memoryWordsSpec)) memoryWordsCard

/-- THE SECOND FORM's CARD OF 'tableaulaw10.MemoryPlays'. -/
def memoryPlaysUptoCard : Claim7 := { stood := { row := memoryPlaysUptoRow, standIns := [], harness := (true, "5d1db8f5337475efd16338d82766228ab33040a9a0a9ddfe67eb726df6a95db0"), looks := true }, kinds := [], alts := [], laidByText := true, laidKinds := [.sentinel, .sentinel, .sentinel, .sentinel, .sentinel, .sentinel, .sentinel, .sentinel, .sentinel, .sentinel, .sentinel, .sentinel, .sentinel, .sentinel, .sentinel, .sentinel], laidTests := true, laidLooks := .later }
def MemoryPlaysUptoCardSaid : Prop := Claim7.holds Tryd.pinned (.plain (OpenSpec.upto memoryPlaysSpec)) memoryPlaysUptoCard

/-- THE SECOND FORM's CARD OF 'tableaulaw10.MemoryKeeps'. -/
def memoryKeepsUptoCard : Claim7 := { stood := { row := memoryKeepsUptoRow, standIns := [], harness := (true, "5d1db8f5337475efd16338d82766228ab33040a9a0a9ddfe67eb726df6a95db0"), looks := true }, kinds := [], alts := [], laidByText := true, laidKinds := [.sentinel, .sentinel, .sentinel, .sentinel, .sentinel, .sentinel, .sentinel, .sentinel, .sentinel, .sentinel, .sentinel, .sentinel, .sentinel, .sentinel, .sentinel, .sentinel], laidTests := true, laidLooks := .later }
def MemoryKeepsUptoCardSaid : Prop := Claim7.holds Tryd.pinned (.plain (OpenSpec.upto memoryKeepsSpec)) memoryKeepsUptoCard

/-- THE SECOND FORM's CARD OF 'tableaulaw10.MemoryApart'. -/
def memoryApartUptoCard : Claim7 := { stood := { row := memoryApartUptoRow, standIns := [], harness := (true, "5d1db8f5337475efd16338d82766228ab33040a9a0a9ddfe67eb726df6a95db0"), looks := true }, kinds := [], alts := [], laidByText := true, laidKinds := [.sentinel, .sentinel, .sentinel], laidTests := true, laidLooks := .later }
def MemoryApartUptoCardSaid : Prop := Claim7.holds Tryd.pinned (.plain (OpenSpec.upto memoryApartSpec)) memoryApartUptoCard

/-- THE SECOND FORM's CARD OF 'tableaulaw10.MemoryWords'. -/
def memoryWordsUptoCard : Claim7 := { stood := { row := memoryWordsUptoRow, standIns := [], harness := (true, "5d1db8f5337475efd16338d82766228ab33040a9a0a9ddfe67eb726df6a95db0"), looks := true }, kinds := [], alts := [], laidByText := true, laidKinds := [.sentinel, .sentinel, .sentinel], laidTests := true, laidLooks := .later }
def MemoryWordsUptoCardSaid : Prop := Claim7.holds Tryd.pinned (.plain (OpenSpec.upto memoryWordsSpec)) memoryWordsUptoCard
end Rows
end Go.Proofs.YtbolncddklgecaaDoor
