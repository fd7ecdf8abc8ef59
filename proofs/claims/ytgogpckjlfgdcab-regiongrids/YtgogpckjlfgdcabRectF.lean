/- The document's own Check, Has, of, Cut, Cover, Shift, Bound. -/
import Derived.Test.YtgogpckjlfgdcabRectD
namespace Go.Proofs.Ytgogpckjlfgdcab
open Go Go.RowKit

def inn (v : Int) : Bool := decide (-16777216 ≤ v) && decide (v ≤ 16777216)
/-- The document's Check. -/
def dck (a : Rc) : Bool := !emp a && inn a.x && inn a.y && decide (a.w ≤ 16777216 - a.x) && decide (a.h ≤ 16777216 - a.y)

theorem inn_iff {v : Int} : inn v = true ↔ -16777216 ≤ v ∧ v ≤ 16777216 := by simp [inn]




end Go.Proofs.Ytgogpckjlfgdcab
