/- A ping, the program's and the document's: whether one waits, which, since when; each call's contract. -/
import Derived.Test.YthoonceohipikaaLibP
import Derived.Lib.Builder
import Derived.LaidMore
namespace Go.Proofs.Ythoonceohipikaa
open Go Go.RowKit

theorem wfi {z : Int} (h : (Lit.int .i64 z).wf = true) : -9223372036854775808 ≤ z ∧ z ≤ 9223372036854775807 := by simpa [Lit.wf, IntKind.min, IntKind.max, IntKind.signed, IntKind.bits] using h

/-- What waits, as cells: nothing, or a serial since a tick. -/
def pon : Option (Int × Int) → Bool
  | none => false
  | some _ => true
def psr : Option (Int × Int) → Int
  | none => 0
  | some x => x.1
def ptk : Option (Int × Int) → Int
  | none => 0
  | some x => x.2
def I64 (z : Int) : Prop := -9223372036854775808 ≤ z ∧ z ≤ 9223372036854775807

/-- The block p holds a ping for which o waits (ty: the program's, or the document's). -/
structure Pn (ty : Nat) (w : World) (p : Nat) (o : Option (Int × Int)) : Prop where
  obj : w.heap[p]? = some (.cells #[.bool (pon o), .int .i64 (psr o), .int .i64 (ptk o)] ty (0, 0))
  hs : I64 (psr o)
  ht : I64 (ptk o)
variable {ty : Nat} {w u : World} {p : Nat} {o : Option (Int × Int)}
theorem Pn.lt (h : Pn ty w p o) : p < w.heap.size := (Array.getElem?_eq_some_iff.1 h.obj).1
theorem Pn.cells (h : Pn ty w p o) : w.cell? ⟨p, 0, none⟩ = some (.bool (pon o)) ∧ w.cell? ⟨p, 1, none⟩ = some (.int .i64 (psr o)) ∧ w.cell? ⟨p, 2, none⟩ = some (.int .i64 (ptk o)) :=
  ⟨(Lib.cell_of_heap h.obj 0).trans rfl, (Lib.cell_of_heap h.obj 1).trans rfl, (Lib.cell_of_heap h.obj 2).trans rfl⟩
theorem Pn.fz (h : Pn ty w p o) (k : Nat) : w.frozen? ⟨p, k, none⟩ = false := Lib.frozen_of_heap h.obj k
theorem Pn.on (h : Pn ty w p o) (hb : Below w.heap.size w u) : Pn ty u p o := ⟨(hb.block p h.lt).trans h.obj, h.hs, h.ht⟩
theorem Pn.kp {X : List Nat} (h : Pn ty w p o) (hb : Kp X w u) (hX : p ∉ X) : Pn ty u p o := ⟨hb.var h.obj hX, h.hs, h.ht⟩
theorem Pn.set (h : Pn ty w p o) (o' : Option (Int × Int)) (h1 : I64 (psr o')) (h2 : I64 (ptk o')) : Pn ty (((w.setCell ⟨p, 0, none⟩ (.bool (pon o'))).setCell ⟨p, 1, none⟩ (.int .i64 (psr o'))).setCell ⟨p, 2, none⟩ (.int .i64 (ptk o'))) p o' :=
  ⟨heap_setCell_same _ p 2 _ _ _ (heap_setCell_same _ p 1 _ _ _ (heap_setCell_same _ p 0 _ _ _ h.obj)), h1, h2⟩
theorem kp_set (w : World) (p k : Nat) (v : Value) : Kp [p] w (w.setCell ⟨p, k, none⟩ v) := (Kp.refl [p] w).set ⟨p, k, none⟩ (by simp) v
theorem kp_set3 (w : World) (p : Nat) (a b c : Value) : Kp [p] w (((w.setCell ⟨p, 0, none⟩ a).setCell ⟨p, 1, none⟩ b).setCell ⟨p, 2, none⟩ c) :=
  ((kp_set w p 0 a).trans (kp_set _ p 1 b) (fun _ h _ => h)).trans (kp_set _ p 2 c) (fun _ h _ => h)
theorem bel_nw (w : World) (x : Obj) : RowKit.Below w.heap.size w (w.alloc x) := (Below.refl _ _).alloc (Nat.le_refl _) _

/-- Whether the tick of what waits is more than three below t. -/
def plate (o : Option (Int × Int)) (t : Int) : Bool := match o with
  | none => false
  | some x => decide (x.2 + 3 < t)

/-- Two of them compared with the zero one. -/
theorem equalA (b : Bool) (s t : Int) (w : World) : (Op.equalIn 10000 41 (.agg #[.bool b, .int .i64 s, .int .i64 t]) (.agg #[.bool false, .int .i64 0, .int .i64 0])).run Try.prog w = .ok (!b && (s == 0 && t == 0)) w := by
  have u3 := Try.underlying3
  have a3 := Try.isAgg3
  have z3 := Try.sizeOf3
  have u4 := Try.underlying4
  have a4 := Try.isAgg4
  have z4 := Try.sizeOf4
  have hS : Try.prog.underlying 41 = some (.struct (Try.prog.fieldsOf 41)) := by kernel_rfl
  have hp : Try.prog.stoodInHeld 41 = false := by kernel_rfl
  rw [show (10000 : Nat) = 9999 + 1 from rfl, run_equalIn_agg w 9999 41 _ _ hS hp]
  simp only [Program.fieldsOf, Try.underlying41]
  go_simp
  cases b <;> by_cases h1 : s = 0 <;> by_cases h2 : t = 0 <;> simp [h1, h2]
theorem equalP (o : Option (Int × Int)) (w : World) : (Op.equalIn 10000 41 (.agg #[.bool (pon o), .int .i64 (psr o), .int .i64 (ptk o)]) (.agg #[.bool false, .int .i64 0, .int .i64 0])).run Try.prog w = .ok (!pon o) w := by
  rw [equalA]
  cases o <;> rfl
theorem eqlA (o : Option (Int × Int)) (w : World) : (binOp .eql 41 (.agg #[.bool (pon o), .int .i64 (psr o), .int .i64 (ptk o)]) (.agg #[.bool false, .int .i64 0, .int .i64 0])).run Try.prog w = .ok (.bool (!pon o)) w := by
  rw [run_eql_struct, equalP]
  rfl
theorem neqA (o : Option (Int × Int)) (w : World) : (binOp .neq 41 (.agg #[.bool (pon o), .int .i64 (psr o), .int .i64 (ptk o)]) (.agg #[.bool false, .int .i64 0, .int .i64 0])).run Try.prog w = .ok (.bool (pon o)) w := by
  rw [run_neq_struct, equalP]
  simp
theorem eqlA_guard (x y : Operand) (xs ys : Array Value) (w : World) : (eqGuard .eql 41 x y (.agg xs) (.agg ys)).run Try.prog w = .ok () w := run_eqGuard_agg w .eql 41 x y xs ys (by kernel_rfl)
theorem neqA_guard (x y : Operand) (xs ys : Array Value) (w : World) : (eqGuard .neq 41 x y (.agg xs) (.agg ys)).run Try.prog w = .ok () w := run_eqGuard_agg w .neq 41 x y xs ys (by kernel_rfl)

theorem pnew_any (w : World) : Calls Try.prog 6 #[] w fun e w' => e = .returned (.pointer (some ⟨w.heap.size, 0, none⟩)) ∧ Below w.heap.size w w' ∧ Pn 43 w' w.heap.size none := by
  go_enter Try.func6, Try.ntmps6
  go_wp2
  go_ret
  exact ⟨rfl, bel_nw w _, ⟨heap_alloc_new w _, by simp [psr, I64], by simp [ptk, I64]⟩⟩

set_option maxRecDepth 100000 in
theorem pask_any (h : Pn 43 w p o) (s t : Int) (hs : I64 s) (ht : I64 t) :
    Calls Try.prog 12 #[.pointer (some ⟨p, 0, none⟩), .int .i64 s, .int .i64 t] w fun e w' => e = .returned (.bool (!pon o)) ∧ Pn 43 w' p (o.or (some (s, t))) ∧ Kp [p] w w' := by
  obtain ⟨c0, c1, c2⟩ := h.cells
  have f0 := h.fz 0
  have f1 := h.fz 1
  have f2 := h.fz 2
  have hlp := h.lt
  have HP := hid (h.set (some (s, t)) hs ht)
  have HH := hid h
  have hq := neqA o
  have hg := neqA_guard
  clear h hs ht
  cases o with
  | none =>
    go_enter Try.func12, Try.ntmps12
    go_wp2
    go_ret
    exact ⟨rfl, HP.out, kp_set3 _ _ _ _ _⟩
  | some x =>
    go_enter Try.func12, Try.ntmps12
    go_wp2
    go_ret
    exact ⟨rfl, HH.out, Kp.refl _ _⟩
theorem Pn.zero (h : Pn ty w p o) : Pn ty (((w.setCell ⟨p, 0, none⟩ (.bool false)).setCell ⟨p, 1, none⟩ (.int .i64 0)).setCell ⟨p, 2, none⟩ (.int .i64 0)) p none :=
  h.set none (by simp [psr, I64]) (by simp [ptk, I64])
set_option maxRecDepth 100000 in
theorem ppong_any (h : Pn 43 w p o) (s : Int) :
    Calls Try.prog 8 #[.pointer (some ⟨p, 0, none⟩), .int .i64 s] w fun e w' => e = .returned (.bool (pon o && psr o == s)) ∧ Pn 43 w' p (if pon o && psr o == s then none else o) ∧ Kp [p] w w' := by
  obtain ⟨c0, c1, c2⟩ := h.cells
  have f0 := h.fz 0
  have f1 := h.fz 1
  have f2 := h.fz 2
  have hlp := h.lt
  have HP := hid h.zero
  have HH := hid h
  have hq := eqlA o
  have hg := eqlA_guard
  clear h
  cases o with
  | none =>
    go_enter Try.func8, Try.ntmps8
    go_wp2
    go_ret
    exact ⟨rfl, HH.out, Kp.refl _ _⟩
  | some x =>
    obtain ⟨x, y⟩ := x
    simp only [pon, psr, ptk, Bool.true_and] at *
    cases hx : (x == s)
    · have hx' : (x != s) = true := by rw [bne, hx]; rfl
      go_enter Try.func8, Try.ntmps8
      go_wp2
      go_ret
      exact ⟨rfl, HH.out, Kp.refl _ _⟩
    · have hx' : (x != s) = false := by rw [bne, hx]; rfl
      go_enter Try.func8, Try.ntmps8
      go_wp2
      go_ret
      exact ⟨rfl, HP.out, kp_set3 _ _ _ _ _⟩

/-- The difference of two numbers as whole numbers without a sign. -/
theorem wrap_sub {s t : Int} (hs : I64 s) (ht : I64 t) (h : s < t) : IntKind.u64.wrap (IntKind.u64.wrap t - IntKind.u64.wrap s) = t - s := by
  unfold I64 at hs ht
  simp only [IntKind.wrap, IntKind.bits, IntKind.signed, Bool.false_and, Bool.false_eq_true, if_false]
  rw [show (2 : Int) ^ 64 = 18446744073709551616 from rfl]
  omega

set_option maxRecDepth 100000 in
theorem plong_any (s t : Int) (hs : I64 s) (ht : I64 t) (w : World) : Calls Try.prog 16 #[.int .i64 s, .int .i64 t] w fun e w' => e = .returned (.bool (decide (s + 3 < t))) ∧ w' = w := by
  by_cases h : s < t
  · have e1 : decide (s < t) = true := decide_eq_true h
    have e2 := wrap_sub hs ht h
    have e3 : decide (s + 3 < t) = decide (3 < t - s) := by rw [decide_eq_decide]; omega
    clear hs ht h
    rw [e3]
    go_enter Try.func16, Try.ntmps16
    go_wp2
    go_ret
    exact ⟨rfl, rfl⟩
  · have e1 : decide (s < t) = false := decide_eq_false h
    have e3 : decide (s + 3 < t) = false := decide_eq_false (by omega)
    clear hs ht h
    rw [e3]
    go_enter Try.func16, Try.ntmps16
    go_wp2
    go_ret
    exact ⟨rfl, rfl⟩

set_option maxRecDepth 100000 in
theorem plate_any (h : Pn 43 w p o) (t : Int) (ht : I64 t) :
    Calls Try.prog 10 #[.pointer (some ⟨p, 0, none⟩), .int .i64 t] w fun e w' => e = .returned (.bool (plate o t)) ∧ w' = w := by
  obtain ⟨c0, c1, c2⟩ := h.cells
  have f0 := h.fz 0
  have f1 := h.fz 1
  have f2 := h.fz 2
  have hlp := h.lt
  have hq := neqA o
  have hg := neqA_guard
  have HC := hid (plong_any (ptk o) t h.ht ht)
  clear h ht
  cases o with
  | none =>
    go_enter Try.func10, Try.ntmps10
    go_wp2
    go_ret
    exact ⟨rfl, rfl⟩
  | some x =>
    obtain ⟨x, y⟩ := x
    simp only [pon, psr, ptk, plate] at *
    go_enter Try.func10, Try.ntmps10
    go_wp2_with fail
    refine (HC.out _).mono ?_
    rintro e u ⟨rfl, rfl⟩
    go_wp2
    go_ret
    exact ⟨rfl, rfl⟩

set_option maxRecDepth 100000 in
theorem pwaits_any (h : Pn 43 w p o) :
    Calls Try.prog 14 #[.pointer (some ⟨p, 0, none⟩)] w fun e w' => e = .returned (.tuple #[.int .i64 (psr o), .bool (pon o)]) ∧ ∃ q, w' = w.drewN q := by
  obtain ⟨c0, c1, c2⟩ := h.cells
  have f0 := h.fz 0
  have f1 := h.fz 1
  have f2 := h.fz 2
  have hlp := h.lt
  have hq := neqA o
  have hg := neqA_guard
  clear h
  go_enter Try.func14, Try.ntmps14
  go_wp2
  go_quiet (fail)
  go_wp2
  go_ret2
  exact ⟨rfl, _, rfl⟩

-- the document's
set_option maxRecDepth 100000 in
theorem rpask_any (h : Pn 27 w p o) (s t : Int) (hs : I64 s) (ht : I64 t) :
    Calls Try.prog 13 #[.pointer (some ⟨p, 0, none⟩), .int .i64 s, .int .i64 t] w fun e w' => e = .returned (.bool (!pon o)) ∧ Pn 27 w' p (o.or (some (s, t))) ∧ Kp [p] w w' := by
  obtain ⟨c0, c1, c2⟩ := h.cells
  have f0 := h.fz 0
  have f1 := h.fz 1
  have f2 := h.fz 2
  have hlp := h.lt
  have HP := hid (h.set (some (s, t)) hs ht)
  have HH := hid h
  clear h hs ht
  cases o with
  | none =>
    go_enter Try.func13, Try.ntmps13
    go_wp2
    go_ret
    exact ⟨rfl, HP.out, kp_set3 _ _ _ _ _⟩
  | some x =>
    go_enter Try.func13, Try.ntmps13
    go_wp2
    go_ret
    exact ⟨rfl, HH.out, Kp.refl _ _⟩
set_option maxRecDepth 100000 in
theorem rppong_any (h : Pn 27 w p o) (s : Int) :
    Calls Try.prog 9 #[.pointer (some ⟨p, 0, none⟩), .int .i64 s] w fun e w' => e = .returned (.bool (pon o && psr o == s)) ∧ Pn 27 w' p (if pon o && psr o == s then none else o) ∧ Kp [p] w w' := by
  obtain ⟨c0, c1, c2⟩ := h.cells
  have f0 := h.fz 0
  have f1 := h.fz 1
  have f2 := h.fz 2
  have hlp := h.lt
  have HP := hid h.zero
  have HH := hid h
  clear h
  cases o with
  | none =>
    go_enter Try.func9, Try.ntmps9
    go_wp2
    go_ret
    exact ⟨rfl, HH.out, Kp.refl _ _⟩
  | some x =>
    obtain ⟨x, y⟩ := x
    simp only [pon, psr, ptk, Bool.true_and] at *
    cases hx : (x == s)
    · have hx' : (x != s) = true := by rw [bne, hx]; rfl
      go_enter Try.func9, Try.ntmps9
      go_wp2
      go_ret
      exact ⟨rfl, HH.out, Kp.refl _ _⟩
    · have hx' : (x != s) = false := by rw [bne, hx]; rfl
      go_enter Try.func9, Try.ntmps9
      go_wp2
      go_ret
      exact ⟨rfl, HP.out, kp_set3 _ _ _ _ _⟩
set_option maxRecDepth 100000 in
theorem rplate_any (h : Pn 27 w p o) (t : Int) (ht : I64 t) :
    Calls Try.prog 11 #[.pointer (some ⟨p, 0, none⟩), .int .i64 t] w fun e w' => e = .returned (.bool (plate o t)) ∧ w' = w := by
  obtain ⟨c0, c1, c2⟩ := h.cells
  have f0 := h.fz 0
  have f1 := h.fz 1
  have f2 := h.fz 2
  have hlp := h.lt
  have hsx := h.ht
  clear h
  cases o with
  | none =>
    clear ht hsx
    go_enter Try.func11, Try.ntmps11
    go_wp2
    go_ret
    exact ⟨rfl, rfl⟩
  | some x =>
    obtain ⟨x, y⟩ := x
    simp only [pon, psr, ptk, plate] at *
    by_cases hh : y < t
    · have e1 : decide (y < t) = true := decide_eq_true hh
      have e2 := wrap_sub hsx ht hh
      have e3 : decide (y + 3 < t) = decide (3 < t - y) := by rw [decide_eq_decide]; omega
      clear hsx ht hh
      rw [e3]
      go_enter Try.func11, Try.ntmps11
      go_wp2
      go_ret
      exact ⟨rfl, rfl⟩
    · have e1 : decide (y < t) = false := decide_eq_false hh
      have e3 : decide (y + 3 < t) = false := decide_eq_false (by omega)
      clear hsx ht hh
      rw [e3]
      go_enter Try.func11, Try.ntmps11
      go_wp2
      go_ret
      exact ⟨rfl, rfl⟩
end Go.Proofs.Ythoonceohipikaa
