/- What comes in; points. -/
import Derived.Test.YtlkodgmnhphfcaaRectH
import Derived.Test.YtlkodgmnhphfcaaLibP
import Derived.Test.YtlkodgmnhphfcaaLibS
namespace Go.Proofs.Ytlkodgmnhphfcaa
open Go Go.RowKit

theorem range64 {z : Int} (h : (Lit.int .i64 z).wf = true) : -9223372036854775808 ≤ z ∧ z ≤ 9223372036854775807 := by
  simpa [Lit.wf, IntKind.min, IntKind.max, IntKind.signed, IntKind.bits] using h

theorem ok4 {x y z u : Int} (h : ∀ k ∈ [x, y, z, u], (Lit.int .i64 k).wf = true) : (⟨x, y, z, u⟩ : Rc).Ok :=
  ⟨range64 (h x (by simp)), range64 (h y (by simp)), range64 (h z (by simp)), range64 (h u (by simp))⟩

theorem Bx.drewN {u : World} {p : Nat} {a : Rc} (h : Bx u p a) (q : Nat) : Bx (u.drewN q) p a := ⟨h.obj⟩

theorem has_iff {a : Rc} {x y : Int} : has a x y = true ↔ 1 ≤ a.w ∧ 1 ≤ a.h ∧ a.x ≤ x ∧ x < a.x + a.w ∧ a.y ≤ y ∧ y < a.y + a.h := by
  simp only [has, emp, wth, Bool.and_eq_true, Bool.not_eq_true', Bool.or_eq_false_iff, decide_eq_true_eq, decide_eq_false_iff_not]
  omega
theorem has_no {a : Rc} {x y : Int} (h : ¬ (1 ≤ a.w ∧ 1 ≤ a.h ∧ a.x ≤ x ∧ x < a.x + a.w ∧ a.y ≤ y ∧ y < a.y + a.h)) : has a x y = false := by
  cases hh : has a x y
  · rfl
  · exact absurd (has_iff.1 hh) h
end Go.Proofs.Ytlkodgmnhphfcaa
