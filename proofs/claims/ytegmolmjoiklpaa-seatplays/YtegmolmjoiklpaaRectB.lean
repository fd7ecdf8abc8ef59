/- The contracts of the program's Has, plain, Shift, Cut, Bound, Check. -/
import Derived.Test.YtegmolmjoiklpaaRectA
import Derived.Laws.Rows
import Derived.Lib.Builder
import Derived.Deep.DeepCutAuto
namespace Go.Proofs.Ytegmolmjoiklpaa
open Go Go.RowKit

def has (a : Rc) (x y : Int) : Bool := !emp a && wth a.x a.w x && wth a.y a.h y
def pln (a : Rc) : Rc := if emp a = true then rz else a
def sh (a : Rc) (x y : Int) : Rc := if emp a = true then rz else ⟨a.x + x, a.y + y, a.w, a.h⟩
def oft (x0 y0 x1 y1 : Int) : Rc := if x1 ≤ x0 ∨ y1 ≤ y0 then rz else ⟨x0, y0, x1 - x0, y1 - y0⟩
def cut (a b : Rc) : Rc := if emp a = true ∨ emp b = true then rz else oft (max a.x b.x) (max a.y b.y) (min (en a.x a.w) (en b.x b.w)) (min (en a.y a.h) (en b.y b.h))

theorem sizes {a : Rc} (h : emp a = false) : 1 ≤ a.w ∧ 1 ≤ a.h := by
  simp only [emp, Bool.or_eq_false_iff, decide_eq_false_iff_not, Int.not_lt] at h
  exact h

/-- A rectangle in a block. -/
structure Bx (u : World) (p : Nat) (a : Rc) : Prop where
  obj : u.heap[p]? = some (.cells #[.int .i64 a.x, .int .i64 a.y, .int .i64 a.w, .int .i64 a.h] 59 (0, 0))

theorem Bx.lt {u : World} {p : Nat} {a : Rc} (h : Bx u p a) : p < u.heap.size := (Array.getElem?_eq_some_iff.1 h.obj).1
theorem Bx.all {u : World} {p : Nat} {a : Rc} (h : Bx u p a) : u.cell? ⟨p, 0, none⟩ = some (.int .i64 a.x) ∧ u.cell? ⟨p, 1, none⟩ = some (.int .i64 a.y) ∧ u.cell? ⟨p, 2, none⟩ = some (.int .i64 a.w) ∧ u.cell? ⟨p, 3, none⟩ = some (.int .i64 a.h) := by
  refine ⟨?_, ?_, ?_, ?_⟩ <;> (rw [World.cell?, h.obj]; rfl)
theorem Bx.fz {u : World} {p : Nat} {a : Rc} (h : Bx u p a) (k : Nat) : u.frozen? ⟨p, k, none⟩ = false := Lib.frozen_of_heap h.obj k
theorem Bx.on {u v : World} {p : Nat} {a : Rc} (h : Bx u p a) (hb : Below u.heap.size u v) : Bx v p a := ⟨by rw [hb.block p h.lt]; exact h.obj⟩
theorem Bx.drew {u : World} {p : Nat} {a : Rc} (h : Bx u p a) : Bx u.drew p a := ⟨h.obj⟩
theorem bx_new (w : World) (a : Rc) : Bx (w.alloc (.cells #[.int .i64 a.x, .int .i64 a.y, .int .i64 a.w, .int .i64 a.h] 59)) w.heap.size a := ⟨heap_alloc_new w _⟩
theorem Bx.set {u : World} {p q : Nat} {a : Rc} (h : Bx u p a) (hn : p ≠ q) (k : Nat) (v : Value) : Bx (u.setCell ⟨q, k, none⟩ v) p a := ⟨by rw [heap_setCell_other _ _ _ _ hn]; exact h.obj⟩
theorem below_new (w : World) (o : Obj) : Below w.heap.size w (w.alloc o) := (Below.refl _ _).alloc (Nat.le_refl _) _


/-- A rectangle as a block. -/
def ob (a : Rc) : Obj := .cells #[.int .i64 a.x, .int .i64 a.y, .int .i64 a.w, .int .i64 a.h] 59
theorem size_ob (w : World) (a : Rc) : (w.alloc (ob a)).heap.size = w.heap.size + 1 := by simp [ob]
theorem box1 {w u : World} (a : Rc) (hb : Below (w.alloc (ob a)).heap.size (w.alloc (ob a)) u) : Bx u w.heap.size a ∧ Below w.heap.size w u :=
  ⟨(bx_new w a).on hb, Below.on (below_new _ _) hb⟩
theorem box2 {w u : World} (a b : Rc) (hb : Below ((w.alloc (ob a)).alloc (ob b)).heap.size ((w.alloc (ob a)).alloc (ob b)) u) : Bx u w.heap.size a ∧ Bx u (w.heap.size + 1) b ∧ Below w.heap.size w u := by
  obtain ⟨h1, h2⟩ := box1 b hb
  obtain ⟨h3, h4⟩ := box1 a h2
  rw [size_ob] at h1
  exact ⟨h3, h1, h4⟩
theorem box3 {w u : World} (a b c : Rc) (hb : Below (((w.alloc (ob a)).alloc (ob b)).alloc (ob c)).heap.size (((w.alloc (ob a)).alloc (ob b)).alloc (ob c)) u) : Bx u w.heap.size a ∧ Bx u (w.heap.size + 1) b ∧ Bx u (w.heap.size + 1 + 1) c ∧ Below w.heap.size w u := by
  obtain ⟨h1, h2⟩ := box1 c hb
  obtain ⟨h3, h4, h5⟩ := box2 a b h2
  rw [size_ob, size_ob] at h1
  exact ⟨h3, h4, h1, h5⟩

/-- A rectangle written into a block. -/
def st4 (u : World) (p : Nat) (a : Rc) : World := (((u.setCell ⟨p, 0, none⟩ (.int .i64 a.x)).setCell ⟨p, 1, none⟩ (.int .i64 a.y)).setCell ⟨p, 2, none⟩ (.int .i64 a.w)).setCell ⟨p, 3, none⟩ (.int .i64 a.h)

theorem Bx.st {u : World} {p : Nat} {a : Rc} (h : Bx u p a) (b : Rc) : Bx (st4 u p b) p b :=
  ⟨heap_setCell_same _ p 3 _ _ _ (heap_setCell_same _ p 2 _ _ _ (heap_setCell_same _ p 1 _ _ _ (heap_setCell_same _ p 0 _ _ _ h.obj)))⟩
theorem Bx.st_other {u : World} {p q : Nat} {a : Rc} (h : Bx u p a) (hn : p ≠ q) (b : Rc) : Bx (st4 u q b) p a := (((h.set hn _ _).set hn _ _).set hn _ _).set hn _ _
theorem below_st {w u : World} {B p : Nat} (h : Below B w u) (hp : B ≤ p) (a : Rc) : Below B w (st4 u p a) := (((h.setCell hp _).setCell hp _).setCell hp _).setCell hp _

theorem infoR : (Try.prog.info? 59).map (·.size) = some 4 := by kernel_rfl

set_option maxRecDepth 100000 in
theorem has_any (a : Rc) (ok : a.Ok) (x y : Int) (hx : -9223372036854775808 ≤ x ∧ x ≤ 9223372036854775807) (hy : -9223372036854775808 ≤ y ∧ y ≤ 9223372036854775807) (w : World) :
    Calls Try.prog 38 #[.agg #[.int .i64 a.x, .int .i64 a.y, .int .i64 a.w, .int .i64 a.h], .int .i64 x, .int .i64 y] w fun e w' => e = .returned (.bool (has a x y)) ∧ Below w.heap.size w w' := by
  have CE := hid (fun w => empty_any a w)
  have HO := hid ok
  clear ok
  go_enter Try.func38, Try.ntmps38
  go_wp2_with fail
  refine (CE.out _).mono ?_
  rintro e w1 ⟨rfl, hb1⟩
  obtain ⟨hA, hw⟩ := box1 a hb1
  obtain ⟨c0, c1, c2, c3⟩ := hA.all
  cases he : emp a
  · obtain ⟨z1, z2⟩ := sizes he
    have CX := hid (fun w => within_any a.x a.w x HO.out.x ⟨z1, HO.out.w.2⟩ hx w)
    have CY := hid (fun w => within_any a.y a.h y HO.out.y ⟨z2, HO.out.h.2⟩ hy w)
    go_wp2_with fail
    refine (CX.out _).mono ?_
    rintro e w2 ⟨rfl, rfl⟩
    cases hx1 : wth a.x a.w x
    · go_wp2
      go_ret
      exact ⟨ret_bool (by simp [has, he, hx1]), hw⟩
    · go_wp2_with fail
      refine (CY.out _).mono ?_
      rintro e w2 ⟨rfl, rfl⟩
      go_wp2
      go_ret
      exact ⟨ret_bool (by simp [has, he, hx1]), hw⟩
  · go_wp2
    go_ret
    exact ⟨ret_bool (by simp [has, he]), hw⟩
theorem pln_emp {a : Rc} (h : emp a = true) : pln a = rz := by rw [pln, if_pos h]
theorem pln_full {a : Rc} (h : emp a = false) : pln a = a := by rw [pln, if_neg (by rw [h]; decide)]


theorem sh_emp {a : Rc} (h : emp a = true) (x y : Int) : sh a x y = rz := by rw [sh, if_pos h]
theorem sh_full {a : Rc} (h : emp a = false) (x y : Int) : sh a x y = ⟨a.x + x, a.y + y, a.w, a.h⟩ := by rw [sh, if_neg (by rw [h]; decide)]

end Go.Proofs.Ytegmolmjoiklpaa
