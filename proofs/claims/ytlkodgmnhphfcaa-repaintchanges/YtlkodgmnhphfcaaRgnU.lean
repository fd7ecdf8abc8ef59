/- The contracts of the program's tooFar and Shift. -/
import Derived.Test.YtlkodgmnhphfcaaRgnT
namespace Go.Proofs.Ytlkodgmnhphfcaa
open Go Go.RowKit

def far (n : Int) : Bool := decide (n < -16777216) || decide (16777216 < n)


theorem far_no {n : Int} (h : far n = false) : -16777216 ≤ n ∧ n ≤ 16777216 := by
  simp [far] at h
  omega

/-- A region, moved. -/
def shf (l : List Rc) (x y : Int) : List Rc := if rgn l = true ∧ far x = false ∧ far y = false then mk fst1 (shl l x y) [] else []
theorem shf_ok (l : List Rc) (x y : Int) : ∀ r ∈ shf l x y, r.Ok := fun r hr => by
  unfold shf at hr
  split at hr
  · rename_i h
    exact ((mk_all (f := fst1) rfl (shl_bands (rgn_iff.1 h.1).bands x y).ck (by simp)).1.ck r hr).ok
  · cases hr
/-- The first j moved. -/
def mvd (l : List Rc) (x y : Int) (j : Nat) : List Rc := (l.take j).map (fun r => bnd (sh r x y)) ++ l.drop j
theorem mvd_len (l : List Rc) (x y : Int) (j : Nat) : (mvd l x y j).length = l.length := by
  rw [mvd, List.length_append, List.length_map, ← List.length_append, List.take_append_drop]
theorem mvd_at {l : List Rc} {x y : Int} {j : Nat} {r : Rc} (h : l[j]? = some r) : (mvd l x y j)[j]? = some r := by
  have hj : j < l.length := (List.getElem?_eq_some_iff.1 h).1
  have hl : ((l.take j).map (fun r => bnd (sh r x y))).length = j := by simp; omega
  rw [mvd, List.getElem?_append_right (by omega), hl, Nat.sub_self, List.getElem?_drop, Nat.add_zero]
  exact h
theorem mvd_set {l : List Rc} {x y : Int} {j : Nat} {r : Rc} (h : l[j]? = some r) : (mvd l x y j).set j (bnd (sh r x y)) = mvd l x y (j + 1) := by
  have hj : j < l.length := (List.getElem?_eq_some_iff.1 h).1
  have hl : ((l.take j).map (fun r => bnd (sh r x y))).length = j := by simp; omega
  rw [mvd, List.set_append_right _ _ (by omega), hl, Nat.sub_self, drop_at h, List.set_cons_zero, mvd, List.take_add_one, h]
  simp
theorem bnd_any_ok (r : Rc) : (bnd r).Ok := by
  rcases bnd_cases r with h | h
  · cases he : emp r
    · rw [bnd_full he, oft]
      split
      · exact rz_ok
      · rename_i hh
        rw [bnd_full he, oft, if_neg hh] at h
        simp [emp] at h
        omega
    · rw [bnd_emp he]; exact rz_ok
  · exact h.ok
theorem flt_shl (l : List Rc) (x y : Int) : flt (mvd l x y l.length) = shl l x y := by
  rw [mvd, List.take_length, List.drop_length, List.append_nil]
  rfl

end Go.Proofs.Ytlkodgmnhphfcaa
