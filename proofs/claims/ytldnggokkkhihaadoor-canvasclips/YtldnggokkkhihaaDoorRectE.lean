/- The contract of the program's Cover. -/
import Derived.Test.YtldnggokkkhihaaDoorRectD
namespace Go.Proofs.YtldnggokkkhihaaDoor
open Go Go.RowKit

def cvr (a b : Rc) : Rc := ⟨min a.x b.x, min a.y b.y, max (en a.x a.w) (en b.x b.w) - min a.x b.x, max (en a.y a.h) (en b.y b.h) - min a.y b.y⟩
/-- The cover. -/
def cov (a b : Rc) : Rc := if emp a = true then pln b else if emp b = true then a else cvr a b

theorem cov_emp1 {a : Rc} (h : emp a = true) (b : Rc) : cov a b = pln b := by rw [cov, if_pos h]
theorem cov_emp2 {a b : Rc} (h : emp a = false) (h' : emp b = true) : cov a b = a := by rw [cov, if_neg (by rw [h]; decide), if_pos h']
theorem cov_full {a b : Rc} (h : emp a = false) (h' : emp b = false) : cov a b = cvr a b := by rw [cov, if_neg (by rw [h]; decide), if_neg (by rw [h']; decide)]
theorem rceq_full {a : Rc} (h : emp a = false) : rceq a rz = false := by
  have hw := (sizes h).1
  have : ¬ a.w = 0 := by omega
  simp [rceq, rz, this]

theorem obj_on {u : World} {p : Nat} {cs : Array Value} {T : TypeId} (h : u.heap[p]? = some (.cells cs T (0, 0))) (o : Obj) : (u.alloc o).heap[p]? = some (.cells cs T (0, 0)) := by
  rw [Below.heap_alloc u o p (Array.getElem?_eq_some_iff.1 h).1]
  exact h

/-- What a store of a rectangle asks for, behind one more block. -/
theorem Bx.stores {u : World} {p : Nat} {a : Rc} (h : Bx u p a) :
    (∀ o, (u.alloc o).cell? ⟨p, 0, none⟩ = some (.int .i64 a.x)) ∧ (∀ o, (u.alloc o).frozen? ⟨p, 0, none⟩ = false) ∧
    (∀ v o, ((u.setCell ⟨p, 0, none⟩ v).alloc o).cell? ⟨p, 1, none⟩ = some (.int .i64 a.y)) ∧ (∀ v o, ((u.setCell ⟨p, 0, none⟩ v).alloc o).frozen? ⟨p, 1, none⟩ = false) ∧
    (∀ v v' o, (((u.setCell ⟨p, 0, none⟩ v).setCell ⟨p, 1, none⟩ v').alloc o).cell? ⟨p, 2, none⟩ = some (.int .i64 a.w)) ∧ (∀ v v' o, (((u.setCell ⟨p, 0, none⟩ v).setCell ⟨p, 1, none⟩ v').alloc o).frozen? ⟨p, 2, none⟩ = false) ∧
    (∀ v v' v'' o, ((((u.setCell ⟨p, 0, none⟩ v).setCell ⟨p, 1, none⟩ v').setCell ⟨p, 2, none⟩ v'').alloc o).cell? ⟨p, 3, none⟩ = some (.int .i64 a.h)) ∧ (∀ v v' v'' o, ((((u.setCell ⟨p, 0, none⟩ v).setCell ⟨p, 1, none⟩ v').setCell ⟨p, 2, none⟩ v'').alloc o).frozen? ⟨p, 3, none⟩ = false) := by
  have h0 := h.obj
  have h1 := fun v => heap_setCell_same u p 0 _ _ v h0
  have h2 := fun v v' => heap_setCell_same _ p 1 _ _ v' (h1 v)
  have h3 := fun v v' v'' => heap_setCell_same _ p 2 _ _ v'' (h2 v v')
  refine ⟨fun o => ?_, fun o => Lib.frozen_of_heap (obj_on h0 o) 0, fun v o => ?_, fun v o => Lib.frozen_of_heap (obj_on (h1 v) o) 1, fun v v' o => ?_, fun v v' o => Lib.frozen_of_heap (obj_on (h2 v v') o) 2, fun v v' v'' o => ?_, fun v v' v'' o => Lib.frozen_of_heap (obj_on (h3 v v' v'') o) 3⟩
  · rw [World.cell?, obj_on h0 o]; rfl
  · rw [World.cell?, obj_on (h1 v) o]; rfl
  · rw [World.cell?, obj_on (h2 v v') o]; rfl
  · rw [World.cell?, obj_on (h3 v v' v'') o]; rfl

end Go.Proofs.YtldnggokkkhihaaDoor
