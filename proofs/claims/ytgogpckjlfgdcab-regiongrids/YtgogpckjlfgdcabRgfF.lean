/- The document's Check, Make, Of; Rects, few, made. -/
import Derived.Test.YtgogpckjlfgdcabRgfE
namespace Go.Proofs.Ytgogpckjlfgdcab
open Go Go.RowKit

theorem fH0 : fH 0 = or := rfl
theorem fH1 : fH 1 = sub := rfl
theorem fH2 : fH 2 = and := rfl
theorem eqr_rgn {l : List Rc} (hk : ∀ r ∈ l, Ck r) : eqr l (mk or l []) = rgn l := by
  rw [Bool.eq_iff_iff, eqr_iff, rgn_iff, ← mk_reg hk]
  exact ⟨fun h => h.symm, fun h => h.symm⟩




end Go.Proofs.Ytgogpckjlfgdcab
