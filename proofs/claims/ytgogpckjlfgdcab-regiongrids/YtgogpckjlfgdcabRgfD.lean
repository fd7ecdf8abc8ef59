/- The document's alike. -/
import Derived.Test.YtgogpckjlfgdcabRgfC
namespace Go.Proofs.Ytgogpckjlfgdcab
open Go Go.RowKit

theorem alk_cons (p q : Rc) (l m : List Rc) : alk (p :: l) (q :: m) = (decide (p.y + p.h = q.y) && eqs (p :: l) (q :: m)) := by
  rw [alk, eqs]
  congr 1
  congr 1
  rw [Bool.eq_iff_iff]
  simp

end Go.Proofs.Ytgogpckjlfgdcab
