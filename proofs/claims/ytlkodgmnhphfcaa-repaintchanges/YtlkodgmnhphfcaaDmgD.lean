/- tableaulaw09's awake. -/
import Derived.Test.YtlkodgmnhphfcaaDmgB
namespace Go.Proofs.Ytlkodgmnhphfcaa
open Go Go.RowKit

theorem dput_nil {r : Rc} (k : Ck r) : dput [] r = [r] := by
  have hd := dor reg_nil r
  have e : mk or [] (ofl r) = [r] := reg_eq hd.1 (reg_one k) fun x y => by rw [hd.2, ofl_ck k, pt_nil, Bool.false_or]
  rw [dput, e, if_neg (by simp)]
theorem ex_add : dput (dfl []) ⟨0, 0, 2, 2⟩ = [⟨0, 0, 2, 2⟩] := dput_nil ⟨by decide, by decide, by decide, by decide, by decide, by decide⟩
theorem ex_clip : mk and (dfl [⟨0, 0, 2, 2⟩]) (ofl ⟨5, 0, 1, 1⟩) = [] := by
  have k1 : Ck ⟨0, 0, 2, 2⟩ := ⟨by decide, by decide, by decide, by decide, by decide, by decide⟩
  have k2 : Ck ⟨5, 0, 1, 1⟩ := ⟨by decide, by decide, by decide, by decide, by decide, by decide⟩
  rw [show dfl [⟨0, 0, 2, 2⟩] = dput [] ⟨0, 0, 2, 2⟩ from rfl, dput_nil k1, ofl_ck k2]
  obtain ⟨h1, h2, _⟩ := mk_all (f := and) rfl (reg_one k1).ck (reg_one k2).ck
  refine reg_eq h1 reg_nil fun x y => ?_
  rw [h2, pt_nil, ← Bool.not_eq_true, Bool.and_eq_true, pt_iff, pt_iff]
  simp only [List.mem_singleton, exists_eq_left, has_iff]
  omega

end Go.Proofs.Ytlkodgmnhphfcaa
