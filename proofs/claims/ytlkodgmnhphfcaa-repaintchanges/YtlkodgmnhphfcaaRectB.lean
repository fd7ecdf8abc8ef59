/- The contracts of the program's Has, plain, Shift, Cut, Bound, Check. -/
import Derived.Test.YtlkodgmnhphfcaaRectA
import Derived.Laws.Rows
import Derived.Lib.Builder
import Derived.Deep.DeepCutAuto
namespace Go.Proofs.Ytlkodgmnhphfcaa
open Go Go.RowKit

def has (a : Rc) (x y : Int) : Bool := !emp a && wth a.x a.w x && wth a.y a.h y
def pln (a : Rc) : Rc := if emp a = true then rz else a
def sh (a : Rc) (x y : Int) : Rc := if emp a = true then rz else ⟨a.x + x, a.y + y, a.w, a.h⟩
def oft (x0 y0 x1 y1 : Int) : Rc := if x1 ≤ x0 ∨ y1 ≤ y0 then rz else ⟨x0, y0, x1 - x0, y1 - y0⟩
def cut (a b : Rc) : Rc := if emp a = true ∨ emp b = true then rz else oft (max a.x b.x) (max a.y b.y) (min (en a.x a.w) (en b.x b.w)) (min (en a.y a.h) (en b.y b.h))

theorem sizes {a : Rc} (h : emp a = false) : 1 ≤ a.w ∧ 1 ≤ a.h := by
  simp only [emp, Bool.or_eq_false_iff, decide_eq_false_iff_not, Int.not_lt] at h
  exact h

/-- A rectangle in a block. -/
structure Bx (u : World) (p : Nat) (a : Rc) : Prop where
  obj : u.heap[p]? = some (.cells #[.int .i64 a.x, .int .i64 a.y, .int .i64 a.w, .int .i64 a.h] 36 (0, 0))

theorem Bx.lt {u : World} {p : Nat} {a : Rc} (h : Bx u p a) : p < u.heap.size := (Array.getElem?_eq_some_iff.1 h.obj).1
theorem Bx.all {u : World} {p : Nat} {a : Rc} (h : Bx u p a) : u.cell? ⟨p, 0, none⟩ = some (.int .i64 a.x) ∧ u.cell? ⟨p, 1, none⟩ = some (.int .i64 a.y) ∧ u.cell? ⟨p, 2, none⟩ = some (.int .i64 a.w) ∧ u.cell? ⟨p, 3, none⟩ = some (.int .i64 a.h) := by
  refine ⟨?_, ?_, ?_, ?_⟩ <;> (rw [World.cell?, h.obj]; rfl)
theorem Bx.fz {u : World} {p : Nat} {a : Rc} (h : Bx u p a) (k : Nat) : u.frozen? ⟨p, k, none⟩ = false := Lib.frozen_of_heap h.obj k
theorem Bx.on {u v : World} {p : Nat} {a : Rc} (h : Bx u p a) (hb : Below u.heap.size u v) : Bx v p a := ⟨by rw [hb.block p h.lt]; exact h.obj⟩
theorem Bx.drew {u : World} {p : Nat} {a : Rc} (h : Bx u p a) : Bx u.drew p a := ⟨h.obj⟩
theorem bx_new (w : World) (a : Rc) : Bx (w.alloc (.cells #[.int .i64 a.x, .int .i64 a.y, .int .i64 a.w, .int .i64 a.h] 36)) w.heap.size a := ⟨heap_alloc_new w _⟩
theorem Bx.set {u : World} {p q : Nat} {a : Rc} (h : Bx u p a) (hn : p ≠ q) (k : Nat) (v : Value) : Bx (u.setCell ⟨q, k, none⟩ v) p a := ⟨by rw [heap_setCell_other _ _ _ _ hn]; exact h.obj⟩
theorem below_new (w : World) (o : Obj) : Below w.heap.size w (w.alloc o) := (Below.refl _ _).alloc (Nat.le_refl _) _


/-- A rectangle as a block. -/
def ob (a : Rc) : Obj := .cells #[.int .i64 a.x, .int .i64 a.y, .int .i64 a.w, .int .i64 a.h] 36
theorem size_ob (w : World) (a : Rc) : (w.alloc (ob a)).heap.size = w.heap.size + 1 := by simp [ob]
theorem box1 {w u : World} (a : Rc) (hb : Below (w.alloc (ob a)).heap.size (w.alloc (ob a)) u) : Bx u w.heap.size a ∧ Below w.heap.size w u :=
  ⟨(bx_new w a).on hb, Below.on (below_new _ _) hb⟩
theorem box2 {w u : World} (a b : Rc) (hb : Below ((w.alloc (ob a)).alloc (ob b)).heap.size ((w.alloc (ob a)).alloc (ob b)) u) : Bx u w.heap.size a ∧ Bx u (w.heap.size + 1) b ∧ Below w.heap.size w u := by
  obtain ⟨h1, h2⟩ := box1 b hb
  obtain ⟨h3, h4⟩ := box1 a h2
  rw [size_ob] at h1
  exact ⟨h3, h1, h4⟩
theorem box3 {w u : World} (a b c : Rc) (hb : Below (((w.alloc (ob a)).alloc (ob b)).alloc (ob c)).heap.size (((w.alloc (ob a)).alloc (ob b)).alloc (ob c)) u) : Bx u w.heap.size a ∧ Bx u (w.heap.size + 1) b ∧ Bx u (w.heap.size + 1 + 1) c ∧ Below w.heap.size w u := by
  obtain ⟨h1, h2⟩ := box1 c hb
  obtain ⟨h3, h4, h5⟩ := box2 a b h2
  rw [size_ob, size_ob] at h1
  exact ⟨h3, h4, h1, h5⟩

/-- A rectangle written into a block. -/
def st4 (u : World) (p : Nat) (a : Rc) : World := (((u.setCell ⟨p, 0, none⟩ (.int .i64 a.x)).setCell ⟨p, 1, none⟩ (.int .i64 a.y)).setCell ⟨p, 2, none⟩ (.int .i64 a.w)).setCell ⟨p, 3, none⟩ (.int .i64 a.h)

theorem Bx.st {u : World} {p : Nat} {a : Rc} (h : Bx u p a) (b : Rc) : Bx (st4 u p b) p b :=
  ⟨heap_setCell_same _ p 3 _ _ _ (heap_setCell_same _ p 2 _ _ _ (heap_setCell_same _ p 1 _ _ _ (heap_setCell_same _ p 0 _ _ _ h.obj)))⟩
theorem Bx.st_other {u : World} {p q : Nat} {a : Rc} (h : Bx u p a) (hn : p ≠ q) (b : Rc) : Bx (st4 u q b) p a := (((h.set hn _ _).set hn _ _).set hn _ _).set hn _ _
theorem below_st {w u : World} {B p : Nat} (h : Below B w u) (hp : B ≤ p) (a : Rc) : Below B w (st4 u p a) := (((h.setCell hp _).setCell hp _).setCell hp _).setCell hp _

theorem infoR : (Try.prog.info? 36).map (·.size) = some 4 := by kernel_rfl

theorem pln_emp {a : Rc} (h : emp a = true) : pln a = rz := by rw [pln, if_pos h]
theorem pln_full {a : Rc} (h : emp a = false) : pln a = a := by rw [pln, if_neg (by rw [h]; decide)]

set_option maxRecDepth 100000 in
theorem plain_any (a : Rc) (w : World) : Calls Try.prog 70 #[.agg #[.int .i64 a.x, .int .i64 a.y, .int .i64 a.w, .int .i64 a.h]] w fun e w' => e = .returned (.agg #[.int .i64 (pln a).x, .int .i64 (pln a).y, .int .i64 (pln a).w, .int .i64 (pln a).h]) ∧ Below w.heap.size w w' := by
  cases he : emp a
  all_goals
    have CE := hid (fun w => empty_any a w)
    rw [he] at CE
    first | rw [pln_full he] | rw [pln_emp he]
    go_enter Try.func70, Try.ntmps70
    go_wp2_with fail
    refine (CE.out _).mono ?_
    rintro e w1 ⟨rfl, hb1⟩
    obtain ⟨hA, hB, hw⟩ := box2 a rz hb1
    obtain ⟨c0, c1, c2, c3⟩ := hA.all
    obtain ⟨d0, d1, d2, d3⟩ := hB.all
    have fz := hB.fz
    have HB := hid hB
    have HW := hid hw
    clear hA hB hb1 hw
    go_wp2
  · refine bodyPost_ret (results_cell_row rfl _ _ (w.heap.size + 1) _ _ _ _ rfl (HB.out.st a).obj Try.underlying36 rfl infoR) rfl ?_
    exact ⟨rfl, below_st HW.out (by omega) a⟩
  · refine bodyPost_ret (results_cell_row rfl _ _ (w.heap.size + 1) _ _ _ _ rfl (HB.out.st rz).obj Try.underlying36 rfl infoR) rfl ?_
    exact ⟨rfl, below_st HW.out (by omega) rz⟩

theorem sh_emp {a : Rc} (h : emp a = true) (x y : Int) : sh a x y = rz := by rw [sh, if_pos h]
theorem sh_full {a : Rc} (h : emp a = false) (x y : Int) : sh a x y = ⟨a.x + x, a.y + y, a.w, a.h⟩ := by rw [sh, if_neg (by rw [h]; decide)]

set_option maxRecDepth 100000 in
theorem shift_any (a : Rc) (x y : Int) (hx : emp a = false → -9223372036854775808 ≤ a.x + x ∧ a.x + x ≤ 9223372036854775807) (hy : emp a = false → -9223372036854775808 ≤ a.y + y ∧ a.y + y ≤ 9223372036854775807) (w : World) :
    Calls Try.prog 41 #[.agg #[.int .i64 a.x, .int .i64 a.y, .int .i64 a.w, .int .i64 a.h], .int .i64 x, .int .i64 y] w fun e w' => e = .returned (.agg #[.int .i64 (sh a x y).x, .int .i64 (sh a x y).y, .int .i64 (sh a x y).w, .int .i64 (sh a x y).h]) ∧ Below w.heap.size w w' := by
  cases he : emp a
  · have CE := hid (fun w => empty_any a w)
    rw [he] at CE
    rw [sh_full he]
    have hx := hx he
    have hy := hy he
    go_enter Try.func41, Try.ntmps41
    go_wp2_with fail
    refine (CE.out _).mono ?_
    rintro e w1 ⟨rfl, hb1⟩
    obtain ⟨hA, hB, hw⟩ := box2 a rz hb1
    obtain ⟨c0, c1, c2, c3⟩ := hA.all
    obtain ⟨d0, d1, d2, d3⟩ := hB.all
    have fz := hB.fz
    have fa := hA.fz
    have HB := hid ((hB.set (q := w.heap.size) (by omega) 0 (.int .i64 (a.x + x))).set (q := w.heap.size) (by omega) 1 (.int .i64 (a.y + y)))
    have HW := hid ((hw.setCell (p := ⟨w.heap.size, 0, none⟩) (Nat.le_refl _) (.int .i64 (a.x + x))).setCell (p := ⟨w.heap.size, 1, none⟩) (Nat.le_refl _) (.int .i64 (a.y + y)))
    clear hA hB hb1 hw
    go_wp2
    refine bodyPost_ret (results_cell_row rfl _ _ (w.heap.size + 1) _ _ _ _ rfl (HB.out.st ⟨a.x + x, a.y + y, a.w, a.h⟩).obj Try.underlying36 rfl infoR) rfl ?_
    exact ⟨rfl, below_st HW.out (by omega) ⟨a.x + x, a.y + y, a.w, a.h⟩⟩
  · have CE := hid (fun w => empty_any a w)
    rw [he] at CE
    rw [sh_emp he]
    clear hx hy
    go_enter Try.func41, Try.ntmps41
    go_wp2_with fail
    refine (CE.out _).mono ?_
    rintro e w1 ⟨rfl, hb1⟩
    obtain ⟨hA, hB, hw⟩ := box2 a rz hb1
    obtain ⟨d0, d1, d2, d3⟩ := hB.all
    have fz := hB.fz
    have HB := hid hB
    have HW := hid hw
    clear hA hB hb1 hw
    go_wp2
    refine bodyPost_ret (results_cell_row rfl _ _ (w.heap.size + 1) _ _ _ _ rfl (HB.out.st rz).obj Try.underlying36 rfl infoR) rfl ?_
    exact ⟨rfl, below_st HW.out (by omega) rz⟩
end Go.Proofs.Ytlkodgmnhphfcaa
