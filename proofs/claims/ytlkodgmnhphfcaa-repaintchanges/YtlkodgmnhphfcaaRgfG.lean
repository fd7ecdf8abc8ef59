/- few, made, awake. -/
import Derived.Test.YtlkodgmnhphfcaaRgnV
import Derived.Test.YtlkodgmnhphfcaaRgfF
namespace Go.Proofs.Ytlkodgmnhphfcaa
open Go Go.RowKit

/-- A list by its places. -/
def gl (l : List Rc) (j : Nat) : Rc := (l[j]?).getD rz



theorem ex_union : unn or [⟨0, 0, 2, 2⟩] [⟨2, 0, 2, 2⟩] = [⟨0, 0, 4, 2⟩] := by
  have k1 : Ck ⟨0, 0, 2, 2⟩ := ⟨by decide, by decide, by decide, by decide, by decide, by decide⟩
  have k2 : Ck ⟨2, 0, 2, 2⟩ := ⟨by decide, by decide, by decide, by decide, by decide, by decide⟩
  have k3 : Ck ⟨0, 0, 4, 2⟩ := ⟨by decide, by decide, by decide, by decide, by decide, by decide⟩
  rw [unn_reg (reg_one k1) (reg_one k2)]
  obtain ⟨h1, h2, _⟩ := mk_all (f := or) rfl (reg_one k1).ck (reg_one k2).ck
  refine reg_eq h1 (reg_one k3) fun x y => ?_
  rw [h2, Bool.eq_iff_iff, Bool.or_eq_true, pt_iff, pt_iff, pt_iff]
  simp only [List.mem_singleton, exists_eq_left, has_iff]
  omega
theorem ex_rgn : rgn [⟨0, 0, 4, 2⟩] = true := rgn_iff.2 (reg_one ⟨by decide, by decide, by decide, by decide, by decide, by decide⟩)

end Go.Proofs.Ytlkodgmnhphfcaa
