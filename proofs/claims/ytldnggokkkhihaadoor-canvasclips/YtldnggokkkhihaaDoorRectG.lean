/- The document's own Cut, Cover, Bound; may, awake. -/
import Derived.Test.YtldnggokkkhihaaDoorRectE
import Derived.Test.YtldnggokkkhihaaDoorRectF
namespace Go.Proofs.YtldnggokkkhihaaDoor
open Go Go.RowKit

/-- A rectangle that may be and has points. -/
structure Ck (a : Rc) : Prop where
  w : 1 ≤ a.w
  h : 1 ≤ a.h
  x : -16777216 ≤ a.x
  y : -16777216 ≤ a.y
  r : a.x + a.w ≤ 16777216
  b : a.y + a.h ≤ 16777216

theorem dck_iff {a : Rc} : dck a = true ↔ Ck a := by
  simp only [dck, inn, emp, Bool.and_eq_true, Bool.not_eq_true', Bool.or_eq_false_iff, decide_eq_true_eq, decide_eq_false_iff_not]
  exact ⟨fun ⟨⟨⟨⟨⟨h1, h2⟩, h3, h4⟩, h5, h6⟩, h7⟩, h8⟩ => ⟨by omega, by omega, h3, h5, by omega, by omega⟩, fun ⟨h1, h2, h3, h4, h5, h6⟩ => ⟨⟨⟨⟨⟨by omega, by omega⟩, h3, by omega⟩, h4, by omega⟩, by omega⟩, by omega⟩⟩
theorem Ck.emp {a : Rc} (h : Ck a) : emp a = false := by
  have h1 := h.w
  have h2 := h.h
  simp [Go.Proofs.YtldnggokkkhihaaDoor.emp]
  omega
theorem Ck.ok {a : Rc} (h : Ck a) : a.Ok := by
  obtain ⟨h1, h2, h3, h4, h5, h6⟩ := h
  exact ⟨by omega, by omega, by omega, by omega⟩
theorem Ck.enx {a : Rc} (h : Ck a) : en a.x a.w = a.x + a.w := by
  have := h.r
  rw [en, if_pos (by omega)]
theorem Ck.eny {a : Rc} (h : Ck a) : en a.y a.h = a.y + a.h := by
  have := h.b
  rw [en, if_pos (by omega)]

/-- What is asked of: a rectangle that may be, or an empty one. -/
def may (a : Rc) : Bool := dck a || emp a
theorem may_cases {a : Rc} (h : may a = true) : emp a = true ∨ Ck a := by
  simp only [may, Bool.or_eq_true] at h
  rcases h with h | h
  · exact .inr (dck_iff.1 h)
  · exact .inl h


theorem oft_cvr {a b : Rc} (ka : Ck a) (kb : Ck b) : oft (min a.x b.x) (min a.y b.y) (max (a.x + a.w) (b.x + b.w)) (max (a.y + a.h) (b.y + b.h)) = cvr a b := by
  rw [cvr, ka.enx, ka.eny, kb.enx, kb.eny]
  obtain ⟨k1, k2, k3, k4, k5, k6⟩ := ka
  obtain ⟨l1, l2, l3, l4, l5, l6⟩ := kb
  rw [oft_full (by omega) (by omega)]

end Go.Proofs.YtldnggokkkhihaaDoor
