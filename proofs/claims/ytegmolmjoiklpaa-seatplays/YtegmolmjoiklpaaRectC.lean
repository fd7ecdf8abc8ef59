/- The contracts of the program's Cut and Bound. -/
import Derived.Test.YtegmolmjoiklpaaRectB
namespace Go.Proofs.Ytegmolmjoiklpaa
open Go Go.RowKit

theorem cut_emp1 {a : Rc} (h : emp a = true) (b : Rc) : cut a b = rz := by rw [cut, if_pos (Or.inl h)]
theorem cut_emp2 (a : Rc) {b : Rc} (h : emp b = true) : cut a b = rz := by rw [cut, if_pos (Or.inr h)]
theorem cut_full {a b : Rc} (h : emp a = false) (h' : emp b = false) : cut a b = oft (max a.x b.x) (max a.y b.y) (min (en a.x a.w) (en b.x b.w)) (min (en a.y a.h) (en b.y b.h)) := by
  rw [cut, if_neg (by rw [h, h']; decide)]

theorem oft_left {x0 y0 x1 y1 : Int} (h : x1 ≤ x0) : oft x0 y0 x1 y1 = rz := by rw [oft, if_pos (Or.inl h)]
theorem oft_top {x0 y0 x1 y1 : Int} (h : y1 ≤ y0) : oft x0 y0 x1 y1 = rz := by rw [oft, if_pos (Or.inr h)]
theorem oft_full {x0 y0 x1 y1 : Int} (h : ¬ x1 ≤ x0) (h' : ¬ y1 ≤ y0) : oft x0 y0 x1 y1 = ⟨x0, y0, x1 - x0, y1 - y0⟩ := by rw [oft, if_neg (by omega)]

/-- The way from the greater place to the lesser end is an int. -/
theorem way_int {p q s t : Int} (hs : 1 ≤ s ∧ s ≤ 9223372036854775807) (h : max p q < min (en p s) (en q t)) :
    -9223372036854775808 ≤ min (en p s) (en q t) - max p q ∧ min (en p s) (en q t) - max p q ≤ 9223372036854775807 := by
  have : en p s ≤ p + s := by unfold en; split <;> omega
  omega


/-- The field. -/
def fld : Rc := ⟨-16777216, -16777216, 33554432, 33554432⟩
theorem fld_ok : fld.Ok := ⟨by decide, by decide, by decide, by decide⟩
def bnd (a : Rc) : Rc := cut a fld

end Go.Proofs.Ytegmolmjoiklpaa
