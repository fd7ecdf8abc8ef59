/- The document's Shift. -/
import Derived.Test.YtlkodgmnhphfcaaRgfI
namespace Go.Proofs.Ytlkodgmnhphfcaa
open Go Go.RowKit

theorem far_yes {n : Int} (h : n < -16777216 ∨ 16777216 < n) : far n = true := by
  simp [far]
  omega
theorem far_not {n : Int} (h : -16777216 ≤ n ∧ n ≤ 16777216) : far n = false := by
  simp [far]
  omega
theorem shl_snoc {l : List Rc} {j : Nat} {r : Rc} (h : l[j]? = some r) (x y : Int) : shl (l.take (j + 1)) x y = shl (l.take j) x y ++ (if emp (bnd (sh r x y)) = true then [] else [bnd (sh r x y)]) := by
  rw [List.take_add_one, h, shl, shl, Option.toList_some, List.map_append, List.filter_append]
  congr 1
  cases he : emp (bnd (sh r x y)) <;> simp [he]

end Go.Proofs.Ytlkodgmnhphfcaa
