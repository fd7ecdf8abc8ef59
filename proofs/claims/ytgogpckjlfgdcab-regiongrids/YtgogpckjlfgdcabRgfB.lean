/- The document's edges. -/
import Derived.Test.YtgogpckjlfgdcabRgfA
namespace Go.Proofs.Ytgogpckjlfgdcab
open Go Go.RowKit

theorem xs_snoc {l : List Rc} {j : Nat} {r : Rc} (h : l[j]? = some r) : xsOf (l.take (j + 1)) = addE (addE (xsOf (l.take j)) r.x) (r.x + r.w) := by
  rw [List.take_add_one, h]
  simp [xsOf]
theorem ys_snoc {l : List Rc} {j : Nat} {r : Rc} (h : l[j]? = some r) : ysOf (l.take (j + 1)) = addE (addE (ysOf (l.take j)) r.y) (r.y + r.h) := by
  rw [List.take_add_one, h]
  simp [ysOf]

end Go.Proofs.Ytgogpckjlfgdcab
