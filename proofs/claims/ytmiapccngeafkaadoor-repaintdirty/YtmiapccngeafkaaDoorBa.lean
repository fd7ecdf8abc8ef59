/- Small laws on worlds that only grow, but for some blocks; no program. -/
import Derived.WalkKit
import Derived.ProofKit
import Derived.Deep.AppendSrc
import Derived.Laws.BytesArg
import Derived.Lib.SlBytesRow
import Derived.Deep.RegionHeldLaw
import Derived.Maps.OwnSet
import Derived.Test.YtmiapccngeafkaaDoorChecked
import Derived.BigQuiet
import Derived.Laws.StructEq
import Derived.Laws.Rows
import Derived.Lib.Builder
import Derived.Deep.DeepCutAuto
namespace Go.Proofs.YtmiapccngeafkaaDoor
open Go Go.RowKit

theorem hid {p : Prop} (h : p) : Hid p := h

theorem Below.on {w w1 w2 : World} (h : Below w.heap.size w w1) (h2 : Below w1.heap.size w1 w2) : Below w.heap.size w w2 := h.trans (h2.mono h.size)

theorem wpAnyH_mono {P : Program} {md : Region.Mode} {ops : Array Oper} {Q : Exit → Act → World → Prop} {S S' : World → Prop} (h : ∀ x, S' x → S x) : ∀ {fuel : Nat} {listed : Array Bool} {a : Act} {w : World}, wpAnyH P md ops Q S' fuel listed a w → wpAnyH P md ops Q S fuel listed a w
  | 0, _, _, _, hh => hh
  | _ + 1, _, _, _, hh => ⟨hh.1, fun i hi => wpOp_mono (fun _ _ q => ⟨h _ q.1, wpAnyH_mono h q.2⟩) (hh.2 i hi)⟩

theorem ownsRow_low {w : World} {base base' e size n : Nat} {v : Value} {xs : List Value} (h : w.ownsRow base e size v n xs) (hb : base' ≤ base) : w.ownsRow base' e size v n xs := by
  refine ⟨h.1, ?_⟩
  rcases h.2 with q | ⟨g, cap, cur, e1, e2, e3⟩
  · exact .inl q
  · exact .inr ⟨g, cap, cur, e1, by omega, e3⟩

theorem ownsRow_below {w w' : World} {base e size n : Nat} {v : Value} {xs : List Value} (h : w.ownsRow base e size v n xs) (hb : Below w.heap.size w w') : w'.ownsRow base e size v n xs := by
  refine ⟨h.1, ?_⟩
  rcases h.2 with q | ⟨g, cap, cur, e1, e2, e3, e4⟩
  · exact .inl q
  · exact .inr ⟨g, cap, cur, e1, e2, by rw [hb.block _ (Array.getElem?_eq_some_iff.1 e3).1]; exact e3, e4⟩

theorem below_drewN {u v : World} {B : Nat} (h : Below B u v) (q : Nat) : Below B u (v.drewN q) := ⟨h.os, h.tape, h.output, h.size, h.block⟩

/-- Of the blocks that were there only those of X may have turned. -/
structure Kp (X : List Nat) (w w' : World) : Prop where
  os : w'.os = w.os
  tape : w'.tape = w.tape
  output : w'.output = w.output
  size : w.heap.size ≤ w'.heap.size
  block : ∀ k, k < w.heap.size → k ∉ X → w'.heap[k]? = w.heap[k]?

theorem Kp.below {X : List Nat} {w w' : World} {B : Nat} (h : Kp X w w') (hB : B ≤ w.heap.size) (hX : ∀ k ∈ X, B ≤ k) : Below B w w' :=
  ⟨h.os, h.tape, h.output, h.size, fun k hk => h.block k (by omega) (fun hm => by have := hX k hm; omega)⟩
theorem kp_of_below {w w' : World} (h : Below w.heap.size w w') (X : List Nat) : Kp X w w' := ⟨h.os, h.tape, h.output, h.size, fun k hk _ => h.block k hk⟩
theorem kp_of_grown {w w' : World} {row : Option Nat} (h : w.grownBy w' row) : Kp row.toList w w' :=
  ⟨h.os, h.tape, h.output, h.size, fun k hk hn => h.block k hk (fun e => hn (by rw [← e]; simp))⟩
theorem Kp.trans {X Y : List Nat} {w w1 w2 : World} (h : Kp X w w1) (h1 : Kp Y w1 w2) (hY : ∀ k ∈ Y, k < w.heap.size → k ∈ X) : Kp X w w2 :=
  ⟨h1.os.trans h.os, h1.tape.trans h.tape, h1.output.trans h.output, Nat.le_trans h.size h1.size, fun k hk hn => by
    rw [h1.block k (Nat.lt_of_lt_of_le hk h.size) (fun hm => hn (hY k hm hk))]
    exact h.block k hk hn⟩
theorem Kp.mono {X Y : List Nat} {w w1 : World} (h : Kp X w w1) (hY : ∀ k ∈ X, k < w.heap.size → k ∈ Y) : Kp Y w w1 :=
  ⟨h.os, h.tape, h.output, h.size, fun k hk hn => h.block k hk (fun hm => hn (hY k hm hk))⟩
theorem Kp.set {X : List Nat} {w w1 : World} (h : Kp X w w1) (p : Addr) (hp : p.block ∈ X) (u : Value) : Kp X w (w1.setCell p u) :=
  h.trans (Y := [p.block]) ⟨rfl, rfl, rfl, by simp [World.setCell], fun k _ hn => Below.heap_setCell _ _ _ _ (fun e => hn (by simp [e]))⟩ (fun k hk _ => by
    simp only [List.mem_cons, List.not_mem_nil, or_false] at hk
    rw [hk]
    exact hp)
theorem Kp.var {X : List Nat} {w w' : World} (h : Kp X w w') {k : Nat} {o : Obj} (ho : w.heap[k]? = some o) (hn : k ∉ X) : w'.heap[k]? = some o := by
  rw [h.block k (Array.getElem?_eq_some_iff.1 ho).1 hn]
  exact ho
theorem Kp.row {X : List Nat} {w w' : World} (h : Kp X w w') {base e size n : Nat} {v : Value} {xs : List Value} (ho : w.ownsRow base e size v n xs) (hn : ∀ k, v.ownBlock = some k → k ∉ X) : w'.ownsRow base e size v n xs := by
  refine ⟨ho.1, ?_⟩
  rcases ho.2 with q | ⟨g, cap, cur, rfl, e2, e3, e4⟩
  · exact .inl q
  · exact .inr ⟨g, cap, cur, rfl, e2, h.var e3 (hn g rfl), e4⟩
/-- A write into a block where the row does not lie. -/
theorem ownsRow_set {w : World} {base e size n : Nat} {v : Value} {xs : List Value} (h : w.ownsRow base e size v n xs) (p : Addr) (hp : v.ownBlock ≠ some p.block) (u : Value) : (w.setCell p u).ownsRow base e size v n xs :=
  ((kp_of_below (Below.refl _ _) [p.block]).set p (by simp) u).row h (fun k hk hm => by
    simp only [List.mem_cons, List.not_mem_nil, or_false] at hm
    exact hp (by rw [hk, hm]))

theorem kp_turned {w w' : World} {b : Nat} (h : w.mapTurned w' b) : Kp [b] w w' := kp_of_grown h.grown
theorem Kp.refl (X : List Nat) (w : World) : Kp X w w := kp_of_below (Below.refl _ _) X
theorem Kp.cell {X : List Nat} {w w' : World} (h : Kp X w w') {a : Addr} {v : Value} (hc : w.cell? a = some v) (hn : a.block ∉ X) : w'.cell? a = some v := by
  rw [← hc]
  simp only [World.cell?, h.block a.block (World.block_lt_of_cell? w _ hc) hn]
end Go.Proofs.YtmiapccngeafkaaDoor

/- Rectangles as four numbers; what the program's and the document's small functions answer. -/
namespace Go.Proofs.YtmiapccngeafkaaDoor
open Go Go.RowKit

/-- A rectangle. -/
structure Rc where
  x : Int
  y : Int
  w : Int
  h : Int

/-- A number that an int can be. -/
def I64 (v : Int) : Prop := -9223372036854775808 ≤ v ∧ v ≤ 9223372036854775807

structure Rc.Ok (a : Rc) : Prop where
  x : -9223372036854775808 ≤ a.x ∧ a.x ≤ 9223372036854775807
  y : -9223372036854775808 ≤ a.y ∧ a.y ≤ 9223372036854775807
  w : -9223372036854775808 ≤ a.w ∧ a.w ≤ 9223372036854775807
  h : -9223372036854775808 ≤ a.h ∧ a.h ≤ 9223372036854775807

def rz : Rc := ⟨0, 0, 0, 0⟩

def emp (a : Rc) : Bool := decide (a.w < 1) || decide (a.h < 1)

/-- n is from at on, so many. -/
def wth (at_ size n : Int) : Bool := decide (at_ ≤ n) && decide (n - at_ < size)

/-- at + size, or the greatest int. -/
def en (at_ size : Int) : Int := if at_ + size ≤ 9223372036854775807 then at_ + size else 9223372036854775807

theorem wrapU (z : Int) : IntKind.u64.wrap z = z % 18446744073709551616 := by simp [IntKind.wrap, IntKind.signed, IntKind.bits]
theorem ret_int {k : IntKind} {a b : Int} (h : a = b) : Ending.returned (.int k a) = .returned (.int k b) := by rw [h]
theorem ret_bool {a b : Bool} (h : a = b) : Ending.returned (.bool a) = .returned (.bool b) := by rw [h]

/-- at + size, or the field's edge. -/
def ed (at_ size : Int) : Int := if at_ + size ≤ 16777216 then at_ + size else 16777216

set_option maxRecDepth 100000 in
theorem empty_any (a : Rc) (w : World) : Calls Tryd.prog 52 #[.agg #[.int .i64 a.x, .int .i64 a.y, .int .i64 a.w, .int .i64 a.h]] w fun e w' => e = .returned (.bool (emp a)) ∧ Below w.heap.size w w' := by
  go_enter Tryd.func52, Tryd.ntmps52
  go_wp2
  · go_ret
    exact ⟨rfl, (Below.refl _ _).alloc (Nat.le_refl _) _⟩
  · go_ret
    exact ⟨by simp [emp, *], (Below.refl _ _).alloc (Nat.le_refl _) _⟩

set_option maxRecDepth 100000 in
theorem rempty_any (a : Rc) (w : World) : Calls Tryd.prog 28 #[.agg #[.int .i64 a.x, .int .i64 a.y, .int .i64 a.w, .int .i64 a.h]] w fun e w' => e = .returned (.bool (emp a)) ∧ Below w.heap.size w w' := by
  go_enter Tryd.func28, Tryd.ntmps28
  go_wp2
  · go_ret
    exact ⟨rfl, (Below.refl _ _).alloc (Nat.le_refl _) _⟩
  · go_ret
    exact ⟨by simp [emp, *], (Below.refl _ _).alloc (Nat.le_refl _) _⟩

theorem wrap_sub {at_ n : Int} (ha : -9223372036854775808 ≤ at_ ∧ at_ ≤ 9223372036854775807) (hn : -9223372036854775808 ≤ n ∧ n ≤ 9223372036854775807) (h : at_ ≤ n) : IntKind.u64.wrap (IntKind.u64.wrap n - IntKind.u64.wrap at_) = n - at_ := by
  rw [wrapU, wrapU, wrapU]
  omega


set_option maxRecDepth 100000 in
theorem rwithin_any (at_ size n : Int) (ha : -9223372036854775808 ≤ at_ ∧ at_ ≤ 9223372036854775807) (hs : 1 ≤ size ∧ size ≤ 9223372036854775807) (hn : -9223372036854775808 ≤ n ∧ n ≤ 9223372036854775807) (w : World) :
    Calls Tryd.prog 29 #[.int .i64 n, .int .i64 at_, .int .i64 size] w fun e w' => e = .returned (.bool (wth at_ size n)) ∧ w' = w := by
  go_enter Tryd.func29, Tryd.ntmps29
  go_wp2
  · go_ret
    rename_i h
    rw [wrap_sub ha hn h]
    exact ⟨ret_bool (by simp [wth, h]), rfl⟩
  · go_ret
    rename_i h
    exact ⟨ret_bool (by simp [wth, Int.not_le.2 h]), rfl⟩

set_option maxRecDepth 100000 in
theorem end_any (at_ size : Int) (ha : -9223372036854775808 ≤ at_ ∧ at_ ≤ 9223372036854775807) (hs : 1 ≤ size ∧ size ≤ 9223372036854775807) (w : World) :
    Calls Tryd.prog 58 #[.int .i64 at_, .int .i64 size] w fun e w' => e = .returned (.int .i64 (en at_ size)) ∧ w' = w := by
  go_enter Tryd.func58, Tryd.ntmps58
  go_wp2
  go_ret
  exact ⟨ret_int (by unfold en; split <;> omega), rfl⟩


set_option maxRecDepth 100000 in
theorem edge_any (at_ size : Int) (ha : -9223372036854775808 ≤ at_ ∧ at_ ≤ 9223372036854775807) (hs : 1 ≤ size ∧ size ≤ 9223372036854775807) (w : World) :
    Calls Tryd.prog 31 #[.int .i64 at_, .int .i64 size] w fun e w' => e = .returned (.int .i64 (ed at_ size)) ∧ w' = w := by
  have HE : Hid (at_ < -16777216 → IntKind.u64.wrap (16777216 - IntKind.u64.wrap at_) = 16777216 - at_) := by
    intro h
    rw [wrapU, wrapU]
    omega
  by_cases h0 : at_ < -16777216
  · have he := HE.out h0
    have h1 : ¬ 16777216 ≤ at_ := by omega
    have h2 : ¬ 0 ≤ at_ := by omega
    have h3 : ¬ -16777216 ≤ at_ := by omega
    clear HE
    go_enter Tryd.func31, Tryd.ntmps31
    go_wp2
    all_goals
      go_ret
      refine ⟨ret_int ?_, rfl⟩
      unfold ed
      split <;> omega
  · clear HE
    go_enter Tryd.func31, Tryd.ntmps31
    go_wp2
    all_goals
      go_ret
      refine ⟨ret_int ?_, rfl⟩
      unfold ed
      split <;> omega
end Go.Proofs.YtmiapccngeafkaaDoor

/- The contracts of the program's Has, plain, Shift, Cut, Bound, Check. -/
namespace Go.Proofs.YtmiapccngeafkaaDoor
open Go Go.RowKit

def has (a : Rc) (x y : Int) : Bool := !emp a && wth a.x a.w x && wth a.y a.h y
def pln (a : Rc) : Rc := if emp a = true then rz else a
def sh (a : Rc) (x y : Int) : Rc := if emp a = true then rz else ⟨a.x + x, a.y + y, a.w, a.h⟩
def oft (x0 y0 x1 y1 : Int) : Rc := if x1 ≤ x0 ∨ y1 ≤ y0 then rz else ⟨x0, y0, x1 - x0, y1 - y0⟩
def cut (a b : Rc) : Rc := if emp a = true ∨ emp b = true then rz else oft (max a.x b.x) (max a.y b.y) (min (en a.x a.w) (en b.x b.w)) (min (en a.y a.h) (en b.y b.h))

theorem sizes {a : Rc} (h : emp a = false) : 1 ≤ a.w ∧ 1 ≤ a.h := by
  simp only [emp, Bool.or_eq_false_iff, decide_eq_false_iff_not, Int.not_lt] at h
  exact h

/-- A rectangle in a block. -/
structure Bx (u : World) (p : Nat) (a : Rc) : Prop where
  obj : u.heap[p]? = some (.cells #[.int .i64 a.x, .int .i64 a.y, .int .i64 a.w, .int .i64 a.h] 24 (0, 0))

theorem Bx.lt {u : World} {p : Nat} {a : Rc} (h : Bx u p a) : p < u.heap.size := (Array.getElem?_eq_some_iff.1 h.obj).1
theorem Bx.all {u : World} {p : Nat} {a : Rc} (h : Bx u p a) : u.cell? ⟨p, 0, none⟩ = some (.int .i64 a.x) ∧ u.cell? ⟨p, 1, none⟩ = some (.int .i64 a.y) ∧ u.cell? ⟨p, 2, none⟩ = some (.int .i64 a.w) ∧ u.cell? ⟨p, 3, none⟩ = some (.int .i64 a.h) := by
  refine ⟨?_, ?_, ?_, ?_⟩ <;> (rw [World.cell?, h.obj]; rfl)
theorem Bx.fz {u : World} {p : Nat} {a : Rc} (h : Bx u p a) (k : Nat) : u.frozen? ⟨p, k, none⟩ = false := Lib.frozen_of_heap h.obj k
theorem Bx.on {u v : World} {p : Nat} {a : Rc} (h : Bx u p a) (hb : Below u.heap.size u v) : Bx v p a := ⟨by rw [hb.block p h.lt]; exact h.obj⟩
theorem Bx.drew {u : World} {p : Nat} {a : Rc} (h : Bx u p a) : Bx u.drew p a := ⟨h.obj⟩
theorem bx_new (w : World) (a : Rc) : Bx (w.alloc (.cells #[.int .i64 a.x, .int .i64 a.y, .int .i64 a.w, .int .i64 a.h] 24)) w.heap.size a := ⟨heap_alloc_new w _⟩
theorem Bx.set {u : World} {p q : Nat} {a : Rc} (h : Bx u p a) (hn : p ≠ q) (k : Nat) (v : Value) : Bx (u.setCell ⟨q, k, none⟩ v) p a := ⟨by rw [heap_setCell_other _ _ _ _ hn]; exact h.obj⟩
theorem below_new (w : World) (o : Obj) : Below w.heap.size w (w.alloc o) := (Below.refl _ _).alloc (Nat.le_refl _) _


/-- A rectangle as a block. -/
def ob (a : Rc) : Obj := .cells #[.int .i64 a.x, .int .i64 a.y, .int .i64 a.w, .int .i64 a.h] 24
theorem size_ob (w : World) (a : Rc) : (w.alloc (ob a)).heap.size = w.heap.size + 1 := by simp [ob]
theorem box1 {w u : World} (a : Rc) (hb : Below (w.alloc (ob a)).heap.size (w.alloc (ob a)) u) : Bx u w.heap.size a ∧ Below w.heap.size w u :=
  ⟨(bx_new w a).on hb, Below.on (below_new _ _) hb⟩
theorem box2 {w u : World} (a b : Rc) (hb : Below ((w.alloc (ob a)).alloc (ob b)).heap.size ((w.alloc (ob a)).alloc (ob b)) u) : Bx u w.heap.size a ∧ Bx u (w.heap.size + 1) b ∧ Below w.heap.size w u := by
  obtain ⟨h1, h2⟩ := box1 b hb
  obtain ⟨h3, h4⟩ := box1 a h2
  rw [size_ob] at h1
  exact ⟨h3, h1, h4⟩
theorem box3 {w u : World} (a b c : Rc) (hb : Below (((w.alloc (ob a)).alloc (ob b)).alloc (ob c)).heap.size (((w.alloc (ob a)).alloc (ob b)).alloc (ob c)) u) : Bx u w.heap.size a ∧ Bx u (w.heap.size + 1) b ∧ Bx u (w.heap.size + 1 + 1) c ∧ Below w.heap.size w u := by
  obtain ⟨h1, h2⟩ := box1 c hb
  obtain ⟨h3, h4, h5⟩ := box2 a b h2
  rw [size_ob, size_ob] at h1
  exact ⟨h3, h4, h1, h5⟩

/-- A rectangle written into a block. -/
def st4 (u : World) (p : Nat) (a : Rc) : World := (((u.setCell ⟨p, 0, none⟩ (.int .i64 a.x)).setCell ⟨p, 1, none⟩ (.int .i64 a.y)).setCell ⟨p, 2, none⟩ (.int .i64 a.w)).setCell ⟨p, 3, none⟩ (.int .i64 a.h)

theorem Bx.st {u : World} {p : Nat} {a : Rc} (h : Bx u p a) (b : Rc) : Bx (st4 u p b) p b :=
  ⟨heap_setCell_same _ p 3 _ _ _ (heap_setCell_same _ p 2 _ _ _ (heap_setCell_same _ p 1 _ _ _ (heap_setCell_same _ p 0 _ _ _ h.obj)))⟩
theorem Bx.st_other {u : World} {p q : Nat} {a : Rc} (h : Bx u p a) (hn : p ≠ q) (b : Rc) : Bx (st4 u q b) p a := (((h.set hn _ _).set hn _ _).set hn _ _).set hn _ _
theorem below_st {w u : World} {B p : Nat} (h : Below B w u) (hp : B ≤ p) (a : Rc) : Below B w (st4 u p a) := (((h.setCell hp _).setCell hp _).setCell hp _).setCell hp _

theorem infoR : (Tryd.prog.info? 24).map (·.size) = some 4 := by kernel_rfl

theorem pln_emp {a : Rc} (h : emp a = true) : pln a = rz := by rw [pln, if_pos h]
theorem pln_full {a : Rc} (h : emp a = false) : pln a = a := by rw [pln, if_neg (by rw [h]; decide)]

set_option maxRecDepth 100000 in
theorem plain_any (a : Rc) (w : World) : Calls Tryd.prog 73 #[.agg #[.int .i64 a.x, .int .i64 a.y, .int .i64 a.w, .int .i64 a.h]] w fun e w' => e = .returned (.agg #[.int .i64 (pln a).x, .int .i64 (pln a).y, .int .i64 (pln a).w, .int .i64 (pln a).h]) ∧ Below w.heap.size w w' := by
  cases he : emp a
  all_goals
    have CE := hid (fun w => empty_any a w)
    rw [he] at CE
    first | rw [pln_full he] | rw [pln_emp he]
    go_enter Tryd.func73, Tryd.ntmps73
    go_wp2_with fail
    refine (CE.out _).mono ?_
    rintro e w1 ⟨rfl, hb1⟩
    obtain ⟨hA, hB, hw⟩ := box2 a rz hb1
    obtain ⟨c0, c1, c2, c3⟩ := hA.all
    obtain ⟨d0, d1, d2, d3⟩ := hB.all
    have fz := hB.fz
    have HB := hid hB
    have HW := hid hw
    clear hA hB hb1 hw
    go_wp2
  · refine bodyPost_ret (results_cell_row rfl _ _ (w.heap.size + 1) _ _ _ _ rfl (HB.out.st a).obj Tryd.underlying24 rfl infoR) rfl ?_
    exact ⟨rfl, below_st HW.out (by omega) a⟩
  · refine bodyPost_ret (results_cell_row rfl _ _ (w.heap.size + 1) _ _ _ _ rfl (HB.out.st rz).obj Tryd.underlying24 rfl infoR) rfl ?_
    exact ⟨rfl, below_st HW.out (by omega) rz⟩

theorem sh_emp {a : Rc} (h : emp a = true) (x y : Int) : sh a x y = rz := by rw [sh, if_pos h]
theorem sh_full {a : Rc} (h : emp a = false) (x y : Int) : sh a x y = ⟨a.x + x, a.y + y, a.w, a.h⟩ := by rw [sh, if_neg (by rw [h]; decide)]

set_option maxRecDepth 100000 in
theorem shift_any (a : Rc) (x y : Int) (hx : emp a = false → -9223372036854775808 ≤ a.x + x ∧ a.x + x ≤ 9223372036854775807) (hy : emp a = false → -9223372036854775808 ≤ a.y + y ∧ a.y + y ≤ 9223372036854775807) (w : World) :
    Calls Tryd.prog 54 #[.agg #[.int .i64 a.x, .int .i64 a.y, .int .i64 a.w, .int .i64 a.h], .int .i64 x, .int .i64 y] w fun e w' => e = .returned (.agg #[.int .i64 (sh a x y).x, .int .i64 (sh a x y).y, .int .i64 (sh a x y).w, .int .i64 (sh a x y).h]) ∧ Below w.heap.size w w' := by
  cases he : emp a
  · have CE := hid (fun w => empty_any a w)
    rw [he] at CE
    rw [sh_full he]
    have hx := hx he
    have hy := hy he
    go_enter Tryd.func54, Tryd.ntmps54
    go_wp2_with fail
    refine (CE.out _).mono ?_
    rintro e w1 ⟨rfl, hb1⟩
    obtain ⟨hA, hB, hw⟩ := box2 a rz hb1
    obtain ⟨c0, c1, c2, c3⟩ := hA.all
    obtain ⟨d0, d1, d2, d3⟩ := hB.all
    have fz := hB.fz
    have fa := hA.fz
    have HB := hid ((hB.set (q := w.heap.size) (by omega) 0 (.int .i64 (a.x + x))).set (q := w.heap.size) (by omega) 1 (.int .i64 (a.y + y)))
    have HW := hid ((hw.setCell (p := ⟨w.heap.size, 0, none⟩) (Nat.le_refl _) (.int .i64 (a.x + x))).setCell (p := ⟨w.heap.size, 1, none⟩) (Nat.le_refl _) (.int .i64 (a.y + y)))
    clear hA hB hb1 hw
    go_wp2
    refine bodyPost_ret (results_cell_row rfl _ _ (w.heap.size + 1) _ _ _ _ rfl (HB.out.st ⟨a.x + x, a.y + y, a.w, a.h⟩).obj Tryd.underlying24 rfl infoR) rfl ?_
    exact ⟨rfl, below_st HW.out (by omega) ⟨a.x + x, a.y + y, a.w, a.h⟩⟩
  · have CE := hid (fun w => empty_any a w)
    rw [he] at CE
    rw [sh_emp he]
    clear hx hy
    go_enter Tryd.func54, Tryd.ntmps54
    go_wp2_with fail
    refine (CE.out _).mono ?_
    rintro e w1 ⟨rfl, hb1⟩
    obtain ⟨hA, hB, hw⟩ := box2 a rz hb1
    obtain ⟨d0, d1, d2, d3⟩ := hB.all
    have fz := hB.fz
    have HB := hid hB
    have HW := hid hw
    clear hA hB hb1 hw
    go_wp2
    refine bodyPost_ret (results_cell_row rfl _ _ (w.heap.size + 1) _ _ _ _ rfl (HB.out.st rz).obj Tryd.underlying24 rfl infoR) rfl ?_
    exact ⟨rfl, below_st HW.out (by omega) rz⟩
end Go.Proofs.YtmiapccngeafkaaDoor

/- The contracts of the program's Cut and Bound. -/
namespace Go.Proofs.YtmiapccngeafkaaDoor
open Go Go.RowKit

theorem cut_emp1 {a : Rc} (h : emp a = true) (b : Rc) : cut a b = rz := by rw [cut, if_pos (Or.inl h)]
theorem cut_emp2 (a : Rc) {b : Rc} (h : emp b = true) : cut a b = rz := by rw [cut, if_pos (Or.inr h)]
theorem cut_full {a b : Rc} (h : emp a = false) (h' : emp b = false) : cut a b = oft (max a.x b.x) (max a.y b.y) (min (en a.x a.w) (en b.x b.w)) (min (en a.y a.h) (en b.y b.h)) := by
  rw [cut, if_neg (by rw [h, h']; decide)]

theorem oft_left {x0 y0 x1 y1 : Int} (h : x1 ≤ x0) : oft x0 y0 x1 y1 = rz := by rw [oft, if_pos (Or.inl h)]
theorem oft_top {x0 y0 x1 y1 : Int} (h : y1 ≤ y0) : oft x0 y0 x1 y1 = rz := by rw [oft, if_pos (Or.inr h)]
theorem oft_full {x0 y0 x1 y1 : Int} (h : ¬ x1 ≤ x0) (h' : ¬ y1 ≤ y0) : oft x0 y0 x1 y1 = ⟨x0, y0, x1 - x0, y1 - y0⟩ := by rw [oft, if_neg (by omega)]

/-- The way from the greater place to the lesser end is an int. -/
theorem way_int {p q s t : Int} (hs : 1 ≤ s ∧ s ≤ 9223372036854775807) (h : max p q < min (en p s) (en q t)) :
    -9223372036854775808 ≤ min (en p s) (en q t) - max p q ∧ min (en p s) (en q t) - max p q ≤ 9223372036854775807 := by
  have : en p s ≤ p + s := by unfold en; split <;> omega
  omega

set_option maxRecDepth 100000 in
set_option maxHeartbeats 1000000 in
theorem cut_any (a b : Rc) (ha : a.Ok) (hb : b.Ok) (w : World) : Calls Tryd.prog 47 #[.agg #[.int .i64 a.x, .int .i64 a.y, .int .i64 a.w, .int .i64 a.h], .agg #[.int .i64 b.x, .int .i64 b.y, .int .i64 b.w, .int .i64 b.h]] w fun e w' => e = .returned (.agg #[.int .i64 (cut a b).x, .int .i64 (cut a b).y, .int .i64 (cut a b).w, .int .i64 (cut a b).h]) ∧ Below w.heap.size w w' := by
  have CE := hid (fun w => empty_any a w)
  have CF := hid (fun w => empty_any b w)
  cases he : emp a
  · cases hf : emp b
    · rw [he] at CE
      rw [hf] at CF
      rw [cut_full he hf]
      obtain ⟨z1, z2⟩ := sizes he
      obtain ⟨z3, z4⟩ := sizes hf
      have C1 := hid (fun w => end_any a.x a.w ha.x ⟨z1, ha.w.2⟩ w)
      have C2 := hid (fun w => end_any b.x b.w hb.x ⟨z3, hb.w.2⟩ w)
      have C3 := hid (fun w => end_any a.y a.h ha.y ⟨z2, ha.h.2⟩ w)
      have C4 := hid (fun w => end_any b.y b.h hb.y ⟨z4, hb.h.2⟩ w)
      have W1 := hid (way_int (p := a.x) (q := b.x) ⟨z1, ha.w.2⟩ (t := b.w))
      have W2 := hid (way_int (p := a.y) (q := b.y) ⟨z2, ha.h.2⟩ (t := b.h))
      clear z1 z2 z3 z4 ha hb he hf
      go_enter Tryd.func47, Tryd.ntmps47
      go_wp2_with fail
      refine (CE.out _).mono ?_
      rintro e w1 ⟨rfl, hb1⟩
      obtain ⟨hA, hB, hR, hw⟩ := box3 a b rz hb1
      obtain ⟨c0, c1, c2, c3⟩ := hB.all
      clear hb1
      go_wp2_with fail
      refine (CF.out _).mono ?_
      rintro e w2 ⟨rfl, hb2⟩
      have HA := hid (hA.on hb2)
      have HB := hid (hB.on hb2)
      have HR := hid (hR.on hb2)
      have HW := hid (Below.on hw hb2)
      clear c0 c1 c2 c3 hA hB hR hw hb2 CE CF
      go_upto_region 3 with fail
      refine wp_region_held_drew (S := fun x => Below w2.heap.size w2 x) (by kernel_rfl) (Below.refl _ _).drew (fun hHeld => ?_)
      have hHeld : Below w2.heap.size w2 w2.drew := hHeld
      refine wpAnyH_take (i := 0) (v := ?_) rfl (by kernel_rfl) (by kernel_rfl) (by kernel_rfl) (fun _ _ _ h => h) (Or.inl ⟨by kernel_rfl, ?hy0⟩) (by assumption) ?_
      case hy0 => (intro w hSw; (try dsimp only at hSw); obtain ⟨t00, t01, t02, t03⟩ := (HA.out.on hSw).all; obtain ⟨t10, t11, t12, t13⟩ := (HB.out.on hSw).all; go_simp; try with_reducible rfl)
      try simp only [Act.put, List.getElem_toArray, List.getElem_cons_zero, List.setIfInBounds_toArray, List.set_cons_zero, List.set_cons_succ]
      refine wpAnyH_take (i := 1) (v := ?_) rfl (by kernel_rfl) (by kernel_rfl) (by kernel_rfl) (fun _ _ _ h => h) (Or.inl ⟨by kernel_rfl, ?hy1⟩) (by assumption) ?_
      case hy1 => (intro w hSw; (try dsimp only at hSw); obtain ⟨t00, t01, t02, t03⟩ := (HA.out.on hSw).all; obtain ⟨t10, t11, t12, t13⟩ := (HB.out.on hSw).all; go_simp; try with_reducible rfl)
      try simp only [Act.put, List.getElem_toArray, List.getElem_cons_zero, List.getElem_cons_succ, List.setIfInBounds_toArray, List.set_cons_zero, List.set_cons_succ]
      refine wpAnyH_take (i := 2) (v := ?_) rfl (by kernel_rfl) (by kernel_rfl) (by kernel_rfl) (fun _ _ _ h => h) (Or.inl ⟨by kernel_rfl, ?hy2⟩) (by assumption) ?_
      case hy2 => (intro w hSw; (try dsimp only at hSw); obtain ⟨t00, t01, t02, t03⟩ := (HA.out.on hSw).all; obtain ⟨t10, t11, t12, t13⟩ := (HB.out.on hSw).all; go_simp; try with_reducible rfl)
      try simp only [Act.put, List.getElem_toArray, List.getElem_cons_zero, List.getElem_cons_succ, List.setIfInBounds_toArray, List.set_cons_zero, List.set_cons_succ]
      refine wpAnyH_take (i := 3) (v := ?_) rfl (by kernel_rfl) (by kernel_rfl) (by kernel_rfl) (fun _ _ _ h => h) (Or.inl ⟨by kernel_rfl, ?hy3⟩) (by assumption) ?_
      case hy3 => (intro w hSw; (try dsimp only at hSw); obtain ⟨t00, t01, t02, t03⟩ := (HA.out.on hSw).all; obtain ⟨t10, t11, t12, t13⟩ := (HB.out.on hSw).all; go_simp; try with_reducible rfl)
      try simp only [Act.put, List.getElem_toArray, List.getElem_cons_zero, List.getElem_cons_succ, List.setIfInBounds_toArray, List.set_cons_zero, List.set_cons_succ]
      refine wpAnyH_take (i := 4) (v := ?_) rfl (by kernel_rfl) (by kernel_rfl) (by kernel_rfl) (fun _ _ _ h => h) (Or.inl ⟨by kernel_rfl, ?hy4⟩) (by assumption) ?_
      case hy4 => (intro w hSw; (try dsimp only at hSw); obtain ⟨t00, t01, t02, t03⟩ := (HA.out.on hSw).all; obtain ⟨t10, t11, t12, t13⟩ := (HB.out.on hSw).all; go_simp; try with_reducible rfl)
      try simp only [Act.put, List.getElem_toArray, List.getElem_cons_zero, List.getElem_cons_succ, List.setIfInBounds_toArray, List.set_cons_zero, List.set_cons_succ]
      refine wpAnyH_take (i := 5) (v := ?_) rfl (by kernel_rfl) (by kernel_rfl) (by kernel_rfl) (fun _ _ _ h => h) (Or.inl ⟨by kernel_rfl, ?hy5⟩) (by assumption) ?_
      case hy5 => (intro w hSw; (try dsimp only at hSw); obtain ⟨t00, t01, t02, t03⟩ := (HA.out.on hSw).all; obtain ⟨t10, t11, t12, t13⟩ := (HB.out.on hSw).all; go_simp; try with_reducible rfl)
      try simp only [Act.put, List.getElem_toArray, List.getElem_cons_zero, List.getElem_cons_succ, List.setIfInBounds_toArray, List.set_cons_zero, List.set_cons_succ]
      refine wpAnyH_take (i := 6) (v := ?_) rfl (by kernel_rfl) (by kernel_rfl) (by kernel_rfl) (fun _ _ _ h => h) (Or.inl ⟨by kernel_rfl, ?hy6⟩) (by assumption) ?_
      case hy6 => (intro w hSw; (try dsimp only at hSw); obtain ⟨t00, t01, t02, t03⟩ := (HA.out.on hSw).all; obtain ⟨t10, t11, t12, t13⟩ := (HB.out.on hSw).all; go_simp; try with_reducible rfl)
      try simp only [Act.put, List.getElem_toArray, List.getElem_cons_zero, List.getElem_cons_succ, List.setIfInBounds_toArray, List.set_cons_zero, List.set_cons_succ]
      refine wpAnyH_take (i := 7) (v := ?_) rfl (by kernel_rfl) (by kernel_rfl) (by kernel_rfl) (fun _ _ _ h => h) (Or.inl ⟨by kernel_rfl, ?hy7⟩) (by assumption) ?_
      case hy7 => (intro w hSw; (try dsimp only at hSw); obtain ⟨t00, t01, t02, t03⟩ := (HA.out.on hSw).all; obtain ⟨t10, t11, t12, t13⟩ := (HB.out.on hSw).all; go_simp; try with_reducible rfl)
      try simp only [Act.put, List.getElem_toArray, List.getElem_cons_zero, List.getElem_cons_succ, List.setIfInBounds_toArray, List.set_cons_zero, List.set_cons_succ]
      refine wpAnyH_take (i := 8) (v := ?_) rfl (by kernel_rfl) (by kernel_rfl) (by kernel_rfl) (fun _ _ _ h => h) (Or.inl ⟨by kernel_rfl, ?hy8⟩) (by assumption) ?_
      case hy8 => (intro w hSw; (try dsimp only at hSw); obtain ⟨t00, t01, t02, t03⟩ := (HA.out.on hSw).all; obtain ⟨t10, t11, t12, t13⟩ := (HB.out.on hSw).all; go_simp; try with_reducible rfl)
      try simp only [Act.put, List.getElem_toArray, List.getElem_cons_zero, List.getElem_cons_succ, List.setIfInBounds_toArray, List.set_cons_zero, List.set_cons_succ]
      refine wpAnyH_take (i := 10) (v := ?_) rfl (by kernel_rfl) (by kernel_rfl) (by kernel_rfl) (fun _ _ _ h => h) (Or.inl ⟨by kernel_rfl, ?hy10⟩) (by assumption) ?_
      case hy10 => (intro w hSw; (try dsimp only at hSw); obtain ⟨t00, t01, t02, t03⟩ := (HA.out.on hSw).all; obtain ⟨t10, t11, t12, t13⟩ := (HB.out.on hSw).all; go_simp; try with_reducible rfl)
      try simp only [Act.put, List.getElem_toArray, List.getElem_cons_zero, List.getElem_cons_succ, List.setIfInBounds_toArray, List.set_cons_zero, List.set_cons_succ]
      refine wpAnyH_take (i := 11) (v := ?_) rfl (by kernel_rfl) (by kernel_rfl) (by kernel_rfl) (fun _ _ _ h => h) (Or.inl ⟨by kernel_rfl, ?hy11⟩) (by assumption) ?_
      case hy11 => (intro w hSw; (try dsimp only at hSw); obtain ⟨t00, t01, t02, t03⟩ := (HA.out.on hSw).all; obtain ⟨t10, t11, t12, t13⟩ := (HB.out.on hSw).all; go_simp; try with_reducible rfl)
      try simp only [Act.put, List.getElem_toArray, List.getElem_cons_zero, List.getElem_cons_succ, List.setIfInBounds_toArray, List.set_cons_zero, List.set_cons_succ]
      refine wpAnyH_take (i := 12) (v := ?_) rfl (by kernel_rfl) (by kernel_rfl) (by kernel_rfl) (fun _ _ _ h => h) (Or.inl ⟨by kernel_rfl, ?hy12⟩) (by assumption) ?_
      case hy12 => (intro w hSw; (try dsimp only at hSw); obtain ⟨t00, t01, t02, t03⟩ := (HA.out.on hSw).all; obtain ⟨t10, t11, t12, t13⟩ := (HB.out.on hSw).all; go_simp; try with_reducible rfl)
      try simp only [Act.put, List.getElem_toArray, List.getElem_cons_zero, List.getElem_cons_succ, List.setIfInBounds_toArray, List.set_cons_zero, List.set_cons_succ]
      refine wpAnyH_take (i := 13) (v := ?_) rfl (by kernel_rfl) (by kernel_rfl) (by kernel_rfl) (fun _ _ _ h => h) (Or.inl ⟨by kernel_rfl, ?hy13⟩) (by assumption) ?_
      case hy13 => (intro w hSw; (try dsimp only at hSw); obtain ⟨t00, t01, t02, t03⟩ := (HA.out.on hSw).all; obtain ⟨t10, t11, t12, t13⟩ := (HB.out.on hSw).all; go_simp; try with_reducible rfl)
      try simp only [Act.put, List.getElem_toArray, List.getElem_cons_zero, List.getElem_cons_succ, List.setIfInBounds_toArray, List.set_cons_zero, List.set_cons_succ]
      refine wpAnyH_ready (rs := [9]) (by kernel_rfl) (by simp) ?_
      refine AllReadyH.cons rfl (fun K hK => ?_) AllReadyH.nil
      go_simp
      go_wp2_with fail
      refine (C1.out _).mono ?_
      rintro e u209 ⟨rfl, rfl⟩
      refine hK.out _ _ hHeld (fun _ => ?_)
      clear hK K
      refine wpAnyH_ready (rs := [14]) (by kernel_rfl) (by simp) ?_
      refine AllReadyH.cons rfl (fun K hK => ?_) AllReadyH.nil
      go_simp
      go_wp2_with fail
      refine (C2.out _).mono ?_
      rintro e u214 ⟨rfl, rfl⟩
      refine hK.out _ _ hHeld (fun _ => ?_)
      clear hK K
      refine wpAnyH_take (i := 15) (v := ?_) rfl (by kernel_rfl) (by kernel_rfl) (by kernel_rfl) (fun _ _ _ h => h) (Or.inl ⟨by kernel_rfl, ?hy15⟩) (by assumption) ?_
      case hy15 => (intro w hSw; (try dsimp only at hSw); obtain ⟨t00, t01, t02, t03⟩ := (HA.out.on hSw).all; obtain ⟨t10, t11, t12, t13⟩ := (HB.out.on hSw).all; go_simp; try with_reducible rfl)
      try simp only [Act.put, List.getElem_toArray, List.getElem_cons_zero, List.getElem_cons_succ, List.setIfInBounds_toArray, List.set_cons_zero, List.set_cons_succ]
      refine wpAnyH_take (i := 16) (v := ?_) rfl (by kernel_rfl) (by kernel_rfl) (by kernel_rfl) (fun _ _ _ h => h) (Or.inl ⟨by kernel_rfl, ?hy16⟩) (by assumption) ?_
      case hy16 => (intro w hSw; (try dsimp only at hSw); obtain ⟨t00, t01, t02, t03⟩ := (HA.out.on hSw).all; obtain ⟨t10, t11, t12, t13⟩ := (HB.out.on hSw).all; go_simp; try with_reducible rfl)
      try simp only [Act.put, List.getElem_toArray, List.getElem_cons_zero, List.getElem_cons_succ, List.setIfInBounds_toArray, List.set_cons_zero, List.set_cons_succ]
      refine wpAnyH_take (i := 17) (v := ?_) rfl (by kernel_rfl) (by kernel_rfl) (by kernel_rfl) (fun _ _ _ h => h) (Or.inl ⟨by kernel_rfl, ?hy17⟩) (by assumption) ?_
      case hy17 => (intro w hSw; (try dsimp only at hSw); obtain ⟨t00, t01, t02, t03⟩ := (HA.out.on hSw).all; obtain ⟨t10, t11, t12, t13⟩ := (HB.out.on hSw).all; go_simp; try with_reducible rfl)
      try simp only [Act.put, List.getElem_toArray, List.getElem_cons_zero, List.getElem_cons_succ, List.setIfInBounds_toArray, List.set_cons_zero, List.set_cons_succ]
      refine wpAnyH_done (by kernel_rfl) ?_ _
      clear hHeld
      have HA2 := hid HA.out.drew
      have HB2 := hid HB.out.drew
      go_upto_region 4 with fail
      refine wp_region_held_drew (S := fun x => Below w2.drew.heap.size w2.drew x) (by kernel_rfl) (Below.refl _ _).drew (fun hHeld => ?_)
      have hHeld : Below w2.drew.heap.size w2.drew w2.drew.drew := hHeld
      refine wpAnyH_take (i := 0) (v := ?_) rfl (by kernel_rfl) (by kernel_rfl) (by kernel_rfl) (fun _ _ _ h => h) (Or.inl ⟨by kernel_rfl, ?hy0⟩) (by assumption) ?_
      case hy0 => (intro w hSw; (try dsimp only at hSw); obtain ⟨t00, t01, t02, t03⟩ := (HA2.out.on hSw).all; obtain ⟨t10, t11, t12, t13⟩ := (HB2.out.on hSw).all; go_simp; try with_reducible rfl)
      try simp only [Act.put, List.getElem_toArray, List.getElem_cons_zero, List.setIfInBounds_toArray, List.set_cons_zero, List.set_cons_succ]
      refine wpAnyH_take (i := 1) (v := ?_) rfl (by kernel_rfl) (by kernel_rfl) (by kernel_rfl) (fun _ _ _ h => h) (Or.inl ⟨by kernel_rfl, ?hy1⟩) (by assumption) ?_
      case hy1 => (intro w hSw; (try dsimp only at hSw); obtain ⟨t00, t01, t02, t03⟩ := (HA2.out.on hSw).all; obtain ⟨t10, t11, t12, t13⟩ := (HB2.out.on hSw).all; go_simp; try with_reducible rfl)
      try simp only [Act.put, List.getElem_toArray, List.getElem_cons_zero, List.getElem_cons_succ, List.setIfInBounds_toArray, List.set_cons_zero, List.set_cons_succ]
      refine wpAnyH_take (i := 2) (v := ?_) rfl (by kernel_rfl) (by kernel_rfl) (by kernel_rfl) (fun _ _ _ h => h) (Or.inl ⟨by kernel_rfl, ?hy2⟩) (by assumption) ?_
      case hy2 => (intro w hSw; (try dsimp only at hSw); obtain ⟨t00, t01, t02, t03⟩ := (HA2.out.on hSw).all; obtain ⟨t10, t11, t12, t13⟩ := (HB2.out.on hSw).all; go_simp; try with_reducible rfl)
      try simp only [Act.put, List.getElem_toArray, List.getElem_cons_zero, List.getElem_cons_succ, List.setIfInBounds_toArray, List.set_cons_zero, List.set_cons_succ]
      refine wpAnyH_take (i := 3) (v := ?_) rfl (by kernel_rfl) (by kernel_rfl) (by kernel_rfl) (fun _ _ _ h => h) (Or.inl ⟨by kernel_rfl, ?hy3⟩) (by assumption) ?_
      case hy3 => (intro w hSw; (try dsimp only at hSw); obtain ⟨t00, t01, t02, t03⟩ := (HA2.out.on hSw).all; obtain ⟨t10, t11, t12, t13⟩ := (HB2.out.on hSw).all; go_simp; try with_reducible rfl)
      try simp only [Act.put, List.getElem_toArray, List.getElem_cons_zero, List.getElem_cons_succ, List.setIfInBounds_toArray, List.set_cons_zero, List.set_cons_succ]
      refine wpAnyH_take (i := 4) (v := ?_) rfl (by kernel_rfl) (by kernel_rfl) (by kernel_rfl) (fun _ _ _ h => h) (Or.inl ⟨by kernel_rfl, ?hy4⟩) (by assumption) ?_
      case hy4 => (intro w hSw; (try dsimp only at hSw); obtain ⟨t00, t01, t02, t03⟩ := (HA2.out.on hSw).all; obtain ⟨t10, t11, t12, t13⟩ := (HB2.out.on hSw).all; go_simp; try with_reducible rfl)
      try simp only [Act.put, List.getElem_toArray, List.getElem_cons_zero, List.getElem_cons_succ, List.setIfInBounds_toArray, List.set_cons_zero, List.set_cons_succ]
      refine wpAnyH_take (i := 5) (v := ?_) rfl (by kernel_rfl) (by kernel_rfl) (by kernel_rfl) (fun _ _ _ h => h) (Or.inl ⟨by kernel_rfl, ?hy5⟩) (by assumption) ?_
      case hy5 => (intro w hSw; (try dsimp only at hSw); obtain ⟨t00, t01, t02, t03⟩ := (HA2.out.on hSw).all; obtain ⟨t10, t11, t12, t13⟩ := (HB2.out.on hSw).all; go_simp; try with_reducible rfl)
      try simp only [Act.put, List.getElem_toArray, List.getElem_cons_zero, List.getElem_cons_succ, List.setIfInBounds_toArray, List.set_cons_zero, List.set_cons_succ]
      refine wpAnyH_take (i := 6) (v := ?_) rfl (by kernel_rfl) (by kernel_rfl) (by kernel_rfl) (fun _ _ _ h => h) (Or.inl ⟨by kernel_rfl, ?hy6⟩) (by assumption) ?_
      case hy6 => (intro w hSw; (try dsimp only at hSw); obtain ⟨t00, t01, t02, t03⟩ := (HA2.out.on hSw).all; obtain ⟨t10, t11, t12, t13⟩ := (HB2.out.on hSw).all; go_simp; try with_reducible rfl)
      try simp only [Act.put, List.getElem_toArray, List.getElem_cons_zero, List.getElem_cons_succ, List.setIfInBounds_toArray, List.set_cons_zero, List.set_cons_succ]
      refine wpAnyH_take (i := 7) (v := ?_) rfl (by kernel_rfl) (by kernel_rfl) (by kernel_rfl) (fun _ _ _ h => h) (Or.inl ⟨by kernel_rfl, ?hy7⟩) (by assumption) ?_
      case hy7 => (intro w hSw; (try dsimp only at hSw); obtain ⟨t00, t01, t02, t03⟩ := (HA2.out.on hSw).all; obtain ⟨t10, t11, t12, t13⟩ := (HB2.out.on hSw).all; go_simp; try with_reducible rfl)
      try simp only [Act.put, List.getElem_toArray, List.getElem_cons_zero, List.getElem_cons_succ, List.setIfInBounds_toArray, List.set_cons_zero, List.set_cons_succ]
      refine wpAnyH_take (i := 8) (v := ?_) rfl (by kernel_rfl) (by kernel_rfl) (by kernel_rfl) (fun _ _ _ h => h) (Or.inl ⟨by kernel_rfl, ?hy8⟩) (by assumption) ?_
      case hy8 => (intro w hSw; (try dsimp only at hSw); obtain ⟨t00, t01, t02, t03⟩ := (HA2.out.on hSw).all; obtain ⟨t10, t11, t12, t13⟩ := (HB2.out.on hSw).all; go_simp; try with_reducible rfl)
      try simp only [Act.put, List.getElem_toArray, List.getElem_cons_zero, List.getElem_cons_succ, List.setIfInBounds_toArray, List.set_cons_zero, List.set_cons_succ]
      refine wpAnyH_take (i := 10) (v := ?_) rfl (by kernel_rfl) (by kernel_rfl) (by kernel_rfl) (fun _ _ _ h => h) (Or.inl ⟨by kernel_rfl, ?hy10⟩) (by assumption) ?_
      case hy10 => (intro w hSw; (try dsimp only at hSw); obtain ⟨t00, t01, t02, t03⟩ := (HA2.out.on hSw).all; obtain ⟨t10, t11, t12, t13⟩ := (HB2.out.on hSw).all; go_simp; try with_reducible rfl)
      try simp only [Act.put, List.getElem_toArray, List.getElem_cons_zero, List.getElem_cons_succ, List.setIfInBounds_toArray, List.set_cons_zero, List.set_cons_succ]
      refine wpAnyH_take (i := 11) (v := ?_) rfl (by kernel_rfl) (by kernel_rfl) (by kernel_rfl) (fun _ _ _ h => h) (Or.inl ⟨by kernel_rfl, ?hy11⟩) (by assumption) ?_
      case hy11 => (intro w hSw; (try dsimp only at hSw); obtain ⟨t00, t01, t02, t03⟩ := (HA2.out.on hSw).all; obtain ⟨t10, t11, t12, t13⟩ := (HB2.out.on hSw).all; go_simp; try with_reducible rfl)
      try simp only [Act.put, List.getElem_toArray, List.getElem_cons_zero, List.getElem_cons_succ, List.setIfInBounds_toArray, List.set_cons_zero, List.set_cons_succ]
      refine wpAnyH_take (i := 12) (v := ?_) rfl (by kernel_rfl) (by kernel_rfl) (by kernel_rfl) (fun _ _ _ h => h) (Or.inl ⟨by kernel_rfl, ?hy12⟩) (by assumption) ?_
      case hy12 => (intro w hSw; (try dsimp only at hSw); obtain ⟨t00, t01, t02, t03⟩ := (HA2.out.on hSw).all; obtain ⟨t10, t11, t12, t13⟩ := (HB2.out.on hSw).all; go_simp; try with_reducible rfl)
      try simp only [Act.put, List.getElem_toArray, List.getElem_cons_zero, List.getElem_cons_succ, List.setIfInBounds_toArray, List.set_cons_zero, List.set_cons_succ]
      refine wpAnyH_take (i := 13) (v := ?_) rfl (by kernel_rfl) (by kernel_rfl) (by kernel_rfl) (fun _ _ _ h => h) (Or.inl ⟨by kernel_rfl, ?hy13⟩) (by assumption) ?_
      case hy13 => (intro w hSw; (try dsimp only at hSw); obtain ⟨t00, t01, t02, t03⟩ := (HA2.out.on hSw).all; obtain ⟨t10, t11, t12, t13⟩ := (HB2.out.on hSw).all; go_simp; try with_reducible rfl)
      try simp only [Act.put, List.getElem_toArray, List.getElem_cons_zero, List.getElem_cons_succ, List.setIfInBounds_toArray, List.set_cons_zero, List.set_cons_succ]
      refine wpAnyH_ready (rs := [9]) (by kernel_rfl) (by simp) ?_
      refine AllReadyH.cons rfl (fun K hK => ?_) AllReadyH.nil
      go_simp
      go_wp2_with fail
      refine (C3.out _).mono ?_
      rintro e u209 ⟨rfl, rfl⟩
      refine hK.out _ _ hHeld (fun _ => ?_)
      clear hK K
      refine wpAnyH_ready (rs := [14]) (by kernel_rfl) (by simp) ?_
      refine AllReadyH.cons rfl (fun K hK => ?_) AllReadyH.nil
      go_simp
      go_wp2_with fail
      refine (C4.out _).mono ?_
      rintro e u214 ⟨rfl, rfl⟩
      refine hK.out _ _ hHeld (fun _ => ?_)
      clear hK K
      refine wpAnyH_take (i := 15) (v := ?_) rfl (by kernel_rfl) (by kernel_rfl) (by kernel_rfl) (fun _ _ _ h => h) (Or.inl ⟨by kernel_rfl, ?hy15⟩) (by assumption) ?_
      case hy15 => (intro w hSw; (try dsimp only at hSw); obtain ⟨t00, t01, t02, t03⟩ := (HA2.out.on hSw).all; obtain ⟨t10, t11, t12, t13⟩ := (HB2.out.on hSw).all; go_simp; try with_reducible rfl)
      try simp only [Act.put, List.getElem_toArray, List.getElem_cons_zero, List.getElem_cons_succ, List.setIfInBounds_toArray, List.set_cons_zero, List.set_cons_succ]
      refine wpAnyH_take (i := 16) (v := ?_) rfl (by kernel_rfl) (by kernel_rfl) (by kernel_rfl) (fun _ _ _ h => h) (Or.inl ⟨by kernel_rfl, ?hy16⟩) (by assumption) ?_
      case hy16 => (intro w hSw; (try dsimp only at hSw); obtain ⟨t00, t01, t02, t03⟩ := (HA2.out.on hSw).all; obtain ⟨t10, t11, t12, t13⟩ := (HB2.out.on hSw).all; go_simp; try with_reducible rfl)
      try simp only [Act.put, List.getElem_toArray, List.getElem_cons_zero, List.getElem_cons_succ, List.setIfInBounds_toArray, List.set_cons_zero, List.set_cons_succ]
      refine wpAnyH_take (i := 17) (v := ?_) rfl (by kernel_rfl) (by kernel_rfl) (by kernel_rfl) (fun _ _ _ h => h) (Or.inl ⟨by kernel_rfl, ?hy17⟩) (by assumption) ?_
      case hy17 => (intro w hSw; (try dsimp only at hSw); obtain ⟨t00, t01, t02, t03⟩ := (HA2.out.on hSw).all; obtain ⟨t10, t11, t12, t13⟩ := (HB2.out.on hSw).all; go_simp; try with_reducible rfl)
      try simp only [Act.put, List.getElem_toArray, List.getElem_cons_zero, List.getElem_cons_succ, List.setIfInBounds_toArray, List.set_cons_zero, List.set_cons_succ]
      refine wpAnyH_done (by kernel_rfl) ?_ _
      clear hHeld HA HB HA2 HB2 C1 C2 C3 C4
      obtain ⟨d0, d1, d2, d3⟩ := HR.out.all
      have fz := HR.out.fz
      by_cases h1 : min (en a.x a.w) (en b.x b.w) ≤ max a.x b.x
      · have e1 : decide (min (en a.x a.w) (en b.x b.w) ≤ max a.x b.x) = true := decide_eq_true h1
        clear W1 W2
        go_wp2
        refine bodyPost_ret (results_cell_row rfl _ _ (w.heap.size + 1 + 1) _ _ _ _ rfl (HR.out.st rz).drew.drew.obj Tryd.underlying24 rfl infoR) rfl ?_
        exact ⟨by rw [oft_left h1], (below_st HW.out (by omega) rz).drew.drew⟩
      · have e1 : decide (min (en a.x a.w) (en b.x b.w) ≤ max a.x b.x) = false := decide_eq_false h1
        by_cases h2 : min (en a.y a.h) (en b.y b.h) ≤ max a.y b.y
        · have e2 : decide (min (en a.y a.h) (en b.y b.h) ≤ max a.y b.y) = true := decide_eq_true h2
          clear W1 W2
          go_wp2
          refine bodyPost_ret (results_cell_row rfl _ _ (w.heap.size + 1 + 1) _ _ _ _ rfl (HR.out.st rz).drew.drew.obj Tryd.underlying24 rfl infoR) rfl ?_
          exact ⟨by rw [oft_top h2], (below_st HW.out (by omega) rz).drew.drew⟩
        · have e2 : decide (min (en a.y a.h) (en b.y b.h) ≤ max a.y b.y) = false := decide_eq_false h2
          have g1 := W1.out (Int.not_le.1 h1)
          have g2 := W2.out (Int.not_le.1 h2)
          clear W1 W2
          go_wp2
          refine bodyPost_ret (results_cell_row rfl _ _ (w.heap.size + 1 + 1) _ _ _ _ rfl (HR.out.st ⟨_, _, _, _⟩).drew.drew.obj Tryd.underlying24 rfl infoR) rfl ?_
          exact ⟨by rw [oft_full (Int.not_le.2 h1) (Int.not_le.2 h2)], (below_st HW.out (by omega) ⟨_, _, _, _⟩).drew.drew⟩
    · rw [hf] at CF
      rw [he] at CE
      rw [cut_emp2 a hf]
      clear ha hb he hf
      go_enter Tryd.func47, Tryd.ntmps47
      go_wp2_with fail
      refine (CE.out _).mono ?_
      rintro e w1 ⟨rfl, hb1⟩
      obtain ⟨_, hB, hR, hw⟩ := box3 a b rz hb1
      obtain ⟨c0, c1, c2, c3⟩ := hB.all
      clear hb1
      go_wp2_with fail
      refine (CF.out _).mono ?_
      rintro e w2 ⟨rfl, hb2⟩
      have HR2 := hid (hR.on hb2)
      have HW2 := hid (Below.on hw hb2)
      clear c0 c1 c2 c3 hB hR hw hb2 CE CF
      obtain ⟨d0, d1, d2, d3⟩ := HR2.out.all
      have fz := HR2.out.fz
      go_wp2
      refine bodyPost_ret (results_cell_row rfl _ _ (w.heap.size + 1 + 1) _ _ _ _ rfl (HR2.out.st rz).obj Tryd.underlying24 rfl infoR) rfl ?_
      exact ⟨rfl, below_st HW2.out (by omega) rz⟩
  · rw [he] at CE
    rw [cut_emp1 he]
    clear ha hb he CF
    go_enter Tryd.func47, Tryd.ntmps47
    go_wp2_with fail
    refine (CE.out _).mono ?_
    rintro e w1 ⟨rfl, hb1⟩
    obtain ⟨_, _, hR, hw⟩ := box3 a b rz hb1
    clear hb1
    have HR2 := hid hR
    have HW2 := hid hw
    clear hR hw CE
    obtain ⟨d0, d1, d2, d3⟩ := HR2.out.all
    have fz := HR2.out.fz
    go_wp2
    refine bodyPost_ret (results_cell_row rfl _ _ (w.heap.size + 1 + 1) _ _ _ _ rfl (HR2.out.st rz).obj Tryd.underlying24 rfl infoR) rfl ?_
    exact ⟨rfl, below_st HW2.out (by omega) rz⟩

/-- The field. -/
def fld : Rc := ⟨-16777216, -16777216, 33554432, 33554432⟩
theorem fld_ok : fld.Ok := ⟨by decide, by decide, by decide, by decide⟩
def bnd (a : Rc) : Rc := cut a fld

set_option maxRecDepth 100000 in
theorem bound_any (a : Rc) (ha : a.Ok) (w : World) : Calls Tryd.prog 53 #[.agg #[.int .i64 a.x, .int .i64 a.y, .int .i64 a.w, .int .i64 a.h]] w fun e w' => e = .returned (.agg #[.int .i64 (bnd a).x, .int .i64 (bnd a).y, .int .i64 (bnd a).w, .int .i64 (bnd a).h]) ∧ Below w.heap.size w w' := by
  have CC := hid (fun w => cut_any a fld ha fld_ok w)
  rw [show fld = ⟨-16777216, -16777216, 33554432, 33554432⟩ from rfl] at CC
  clear ha
  unfold bnd
  go_enter Tryd.func53, Tryd.ntmps53
  go_wp2_with fail
  refine (CC.out _).mono ?_
  rintro e w1 ⟨rfl, hb1⟩
  obtain ⟨_, hR, hw⟩ := box2 a rz hb1
  have HR := hid hR
  have HW := hid hw
  obtain ⟨d0, d1, d2, d3⟩ := hR.all
  have fz := hR.fz
  clear hb1 hR hw CC
  go_wp2
  refine bodyPost_ret (results_cell_row rfl _ _ (w.heap.size + 1) _ _ _ _ rfl (HR.out.st (cut a fld)).obj Tryd.underlying24 rfl infoR) rfl ?_
  exact ⟨rfl, below_st HW.out (by omega) (cut a fld)⟩
end Go.Proofs.YtmiapccngeafkaaDoor

/- The contracts of the program's Check and Cover; rectangles compared. -/
namespace Go.Proofs.YtmiapccngeafkaaDoor
open Go Go.RowKit

theorem eqlR_guard (x y : Operand) (xs ys : Array Value) (w : World) : (eqGuard .eql 24 x y (.agg xs) (.agg ys)).run Tryd.prog w = .ok () w := run_eqGuard_agg w .eql 24 x y xs ys (by kernel_rfl)
theorem neqR_guard (x y : Operand) (xs ys : Array Value) (w : World) : (eqGuard .neq 24 x y (.agg xs) (.agg ys)).run Tryd.prog w = .ok () w := run_eqGuard_agg w .neq 24 x y xs ys (by kernel_rfl)

/-- Whether two rectangles are the same. -/
def rceq (a b : Rc) : Bool := a.x == b.x && (a.y == b.y && (a.w == b.w && a.h == b.h))
theorem rceq_same (a : Rc) : rceq a a = true := by simp [rceq]
theorem rceq_iff {a b : Rc} : rceq a b = true ↔ a = b := by
  cases a; cases b
  simp [rceq]

theorem equalR (a b : Rc) (w : World) : (Op.equalIn 10000 24 (.agg #[.int .i64 a.x, .int .i64 a.y, .int .i64 a.w, .int .i64 a.h]) (.agg #[.int .i64 b.x, .int .i64 b.y, .int .i64 b.w, .int .i64 b.h])).run Tryd.prog w = .ok (rceq a b) w := by
  have u3 := Tryd.underlying3
  have a3 := Tryd.isAgg3
  have z3 := Tryd.sizeOf3
  have hS : Tryd.prog.underlying 24 = some (.struct (Tryd.prog.fieldsOf 24)) := by kernel_rfl
  have hp : Tryd.prog.stoodInHeld 24 = false := by kernel_rfl
  rw [show (10000 : Nat) = 9999 + 1 from rfl, run_equalIn_agg w 9999 24 _ _ hS hp]
  simp only [Program.fieldsOf, Tryd.underlying24]
  go_simp
  unfold rceq
  by_cases h1 : a.x = b.x <;> by_cases h2 : a.y = b.y <;> by_cases h3 : a.w = b.w <;> by_cases h4 : a.h = b.h <;> simp [h1, h2, h3, h4]

theorem eqlR (a b : Rc) (w : World) : (binOp .eql 24 (.agg #[.int .i64 a.x, .int .i64 a.y, .int .i64 a.w, .int .i64 a.h]) (.agg #[.int .i64 b.x, .int .i64 b.y, .int .i64 b.w, .int .i64 b.h])).run Tryd.prog w = .ok (.bool (rceq a b)) w := by
  rw [run_eql_struct, equalR]
  rfl
theorem neqR (a b : Rc) (w : World) : (binOp .neq 24 (.agg #[.int .i64 a.x, .int .i64 a.y, .int .i64 a.w, .int .i64 a.h]) (.agg #[.int .i64 b.x, .int .i64 b.y, .int .i64 b.w, .int .i64 b.h])).run Tryd.prog w = .ok (.bool (!rceq a b)) w := by
  rw [run_neq_struct, equalR]
  rfl

/-- What may be. -/
def chk (a : Rc) : Bool := !emp a && rceq (bnd a) a

set_option maxRecDepth 100000 in
set_option maxHeartbeats 1000000 in
theorem check_any (a : Rc) (ha : a.Ok) (w : World) : Calls Tryd.prog 42 #[.agg #[.int .i64 a.x, .int .i64 a.y, .int .i64 a.w, .int .i64 a.h]] w fun e w' => e = .returned (.bool (chk a)) ∧ Below w.heap.size w w' := by
  have CE := hid (fun w => empty_any a w)
  have CB := hid (fun w => bound_any a ha w)
  have hq := eqlR (bnd a) a
  have hg := eqlR_guard
  have h0 := bx_new w a
  have HA := hid h0
  have HW := hid (below_new w (.cells #[.int .i64 a.x, .int .i64 a.y, .int .i64 a.w, .int .i64 a.h] 24))
  clear ha h0
  cases he : emp a
  · rw [he] at CE
    rw [chk, he]
    go_enter Tryd.func42, Tryd.ntmps42
    go_upto_region 1 with fail
    refine wp_region_held_drew (S := fun x => Below (w.alloc (.cells #[.int .i64 a.x, .int .i64 a.y, .int .i64 a.w, .int .i64 a.h] 24)).heap.size (w.alloc (.cells #[.int .i64 a.x, .int .i64 a.y, .int .i64 a.w, .int .i64 a.h] 24)) x) (by kernel_rfl) (Below.refl _ _).drew (fun hHeld => ?_)
    have hHeld : Below (w.alloc (.cells #[.int .i64 a.x, .int .i64 a.y, .int .i64 a.w, .int .i64 a.h] 24)).heap.size (w.alloc (.cells #[.int .i64 a.x, .int .i64 a.y, .int .i64 a.w, .int .i64 a.h] 24)) (w.alloc (.cells #[.int .i64 a.x, .int .i64 a.y, .int .i64 a.w, .int .i64 a.h] 24)).drew := hHeld
    refine wpAnyH_take (i := 0) (v := ?_) rfl (by kernel_rfl) (by kernel_rfl) (by kernel_rfl) (fun _ _ _ h => h) (Or.inl ⟨by kernel_rfl, ?hy0⟩) (by assumption) ?_
    case hy0 => (intro w hSw; (try dsimp only at hSw); obtain ⟨t00, t01, t02, t03⟩ := (HA.out.on hSw).all; go_simp; try with_reducible rfl)
    try simp only [Act.put, List.getElem_toArray, List.getElem_cons_zero, List.setIfInBounds_toArray, List.set_cons_zero, List.set_cons_succ]
    refine wpAnyH_ready (rs := [1]) (by kernel_rfl) (by simp) ?_
    refine AllReadyH.cons rfl (fun K hK => ?_) AllReadyH.nil
    go_simp
    go_wp2_with fail
    refine (CE.out _).mono ?_
    rintro e u201 ⟨rfl, hb⟩
    replace hHeld := Below.on hHeld hb
    refine hK.out _ _ hHeld (fun _ => ?_)
    clear hK K hb
    refine wpAnyH_take (i := 2) (v := ?_) rfl (by kernel_rfl) (by kernel_rfl) (by kernel_rfl) (fun _ _ _ h => h) (Or.inl ⟨by kernel_rfl, ?hy2⟩) (by assumption) ?_
    case hy2 => (intro w hSw; (try dsimp only at hSw); obtain ⟨t00, t01, t02, t03⟩ := (HA.out.on hSw).all; go_simp; try with_reducible rfl)
    try simp only [Act.put, List.getElem_toArray, List.getElem_cons_zero, List.getElem_cons_succ, List.setIfInBounds_toArray, List.set_cons_zero, List.set_cons_succ]
    refine wpAnyH_take (i := 3) (v := ?_) rfl (by kernel_rfl) (by kernel_rfl) (by kernel_rfl) (fun _ _ _ h => h) (Or.inl ⟨by kernel_rfl, ?hy3⟩) (by assumption) ?_
    case hy3 => (intro w hSw; (try dsimp only at hSw); obtain ⟨t00, t01, t02, t03⟩ := (HA.out.on hSw).all; go_simp; try with_reducible rfl)
    try simp only [Act.put, List.getElem_toArray, List.getElem_cons_zero, List.getElem_cons_succ, List.setIfInBounds_toArray, List.set_cons_zero, List.set_cons_succ]
    refine wpAnyH_take (i := 4) (v := ?_) rfl (by kernel_rfl) (by kernel_rfl) (by kernel_rfl) (fun _ _ _ h => h) (Or.inl ⟨by kernel_rfl, ?hy4⟩) (by assumption) ?_
    case hy4 => (intro w hSw; (try dsimp only at hSw); obtain ⟨t00, t01, t02, t03⟩ := (HA.out.on hSw).all; go_simp; try with_reducible rfl)
    try simp only [Act.put, List.getElem_toArray, List.getElem_cons_zero, List.getElem_cons_succ, List.setIfInBounds_toArray, List.set_cons_zero, List.set_cons_succ]
    refine wpAnyH_take (i := 6) (v := ?_) rfl (by kernel_rfl) (by kernel_rfl) (by kernel_rfl) (fun _ _ _ h => h) (Or.inl ⟨by kernel_rfl, ?hy6⟩) (by assumption) ?_
    case hy6 => (intro w hSw; (try dsimp only at hSw); obtain ⟨t00, t01, t02, t03⟩ := (HA.out.on hSw).all; go_simp; try with_reducible rfl)
    try simp only [Act.put, List.getElem_toArray, List.getElem_cons_zero, List.getElem_cons_succ, List.setIfInBounds_toArray, List.set_cons_zero, List.set_cons_succ]
    refine wpAnyH_ready (rs := [5]) (by kernel_rfl) (by simp) ?_
    refine AllReadyH.cons rfl (fun K hK => ?_) AllReadyH.nil
    go_simp
    go_wp2_with fail
    refine (CB.out _).mono ?_
    rintro e u205 ⟨rfl, hb⟩
    replace hHeld := Below.on hHeld hb
    refine hK.out _ _ hHeld (fun _ => ?_)
    clear hK K hb
    refine wpAnyH_take (i := 7) (v := ?_) rfl (by kernel_rfl) (by kernel_rfl) (by kernel_rfl) (fun _ _ _ h => h) (Or.inl ⟨by kernel_rfl, ?hy7⟩) (by assumption) ?_
    case hy7 => (intro w hSw; (try dsimp only at hSw); obtain ⟨t00, t01, t02, t03⟩ := (HA.out.on hSw).all; go_simp; try with_reducible rfl)
    try simp only [Act.put, List.getElem_toArray, List.getElem_cons_zero, List.getElem_cons_succ, List.setIfInBounds_toArray, List.set_cons_zero, List.set_cons_succ]
    refine wpAnyH_take (i := 8) (v := ?_) rfl (by kernel_rfl) (by kernel_rfl) (by kernel_rfl) (fun _ _ _ h => h) (Or.inl ⟨by kernel_rfl, ?hy8⟩) (by assumption) ?_
    case hy8 => (intro w hSw; (try dsimp only at hSw); obtain ⟨t00, t01, t02, t03⟩ := (HA.out.on hSw).all; go_simp; try with_reducible rfl)
    try simp only [Act.put, List.getElem_toArray, List.getElem_cons_zero, List.getElem_cons_succ, List.setIfInBounds_toArray, List.set_cons_zero, List.set_cons_succ]
    refine wpAnyH_take (i := 9) (v := ?_) rfl (by kernel_rfl) (by kernel_rfl) (by kernel_rfl) (fun _ _ _ h => h) (Or.inl ⟨by kernel_rfl, ?hy9⟩) (by assumption) ?_
    case hy9 => (intro w hSw; (try dsimp only at hSw); obtain ⟨t00, t01, t02, t03⟩ := (HA.out.on hSw).all; go_simp; try with_reducible rfl)
    try simp only [Act.put, List.getElem_toArray, List.getElem_cons_zero, List.getElem_cons_succ, List.setIfInBounds_toArray, List.set_cons_zero, List.set_cons_succ]
    refine wpAnyH_done (by kernel_rfl) ?_ _
    go_wp2
    go_ret
    exact ⟨ret_bool (by simp), Below.on HW.out hHeld⟩
  · rw [he] at CE
    rw [chk, he]
    go_enter Tryd.func42, Tryd.ntmps42
    go_upto_region 1 with fail
    refine wp_region_held_drew (S := fun x => Below (w.alloc (.cells #[.int .i64 a.x, .int .i64 a.y, .int .i64 a.w, .int .i64 a.h] 24)).heap.size (w.alloc (.cells #[.int .i64 a.x, .int .i64 a.y, .int .i64 a.w, .int .i64 a.h] 24)) x) (by kernel_rfl) (Below.refl _ _).drew (fun hHeld => ?_)
    have hHeld : Below (w.alloc (.cells #[.int .i64 a.x, .int .i64 a.y, .int .i64 a.w, .int .i64 a.h] 24)).heap.size (w.alloc (.cells #[.int .i64 a.x, .int .i64 a.y, .int .i64 a.w, .int .i64 a.h] 24)) (w.alloc (.cells #[.int .i64 a.x, .int .i64 a.y, .int .i64 a.w, .int .i64 a.h] 24)).drew := hHeld
    refine wpAnyH_take (i := 0) (v := ?_) rfl (by kernel_rfl) (by kernel_rfl) (by kernel_rfl) (fun _ _ _ h => h) (Or.inl ⟨by kernel_rfl, ?hy0⟩) (by assumption) ?_
    case hy0 => (intro w hSw; (try dsimp only at hSw); obtain ⟨t00, t01, t02, t03⟩ := (HA.out.on hSw).all; go_simp; try with_reducible rfl)
    try simp only [Act.put, List.getElem_toArray, List.getElem_cons_zero, List.setIfInBounds_toArray, List.set_cons_zero, List.set_cons_succ]
    refine wpAnyH_ready (rs := [1]) (by kernel_rfl) (by simp) ?_
    refine AllReadyH.cons rfl (fun K hK => ?_) AllReadyH.nil
    go_simp
    go_wp2_with fail
    refine (CE.out _).mono ?_
    rintro e u201 ⟨rfl, hb⟩
    replace hHeld := Below.on hHeld hb
    refine hK.out _ _ hHeld (fun _ => ?_)
    clear hK K hb
    refine wpAnyH_take (i := 2) (v := ?_) rfl (by kernel_rfl) (by kernel_rfl) (by kernel_rfl) (fun _ _ _ h => h) (Or.inl ⟨by kernel_rfl, ?hy2⟩) (by assumption) ?_
    case hy2 => (intro w hSw; (try dsimp only at hSw); obtain ⟨t00, t01, t02, t03⟩ := (HA.out.on hSw).all; go_simp; try with_reducible rfl)
    try simp only [Act.put, List.getElem_toArray, List.getElem_cons_zero, List.getElem_cons_succ, List.setIfInBounds_toArray, List.set_cons_zero, List.set_cons_succ]
    refine wpAnyH_take (i := 3) (v := ?_) rfl (by kernel_rfl) (by kernel_rfl) (by kernel_rfl) (fun _ _ _ h => h) (Or.inl ⟨by kernel_rfl, ?hy3⟩) (by assumption) ?_
    case hy3 => (intro w hSw; (try dsimp only at hSw); obtain ⟨t00, t01, t02, t03⟩ := (HA.out.on hSw).all; go_simp; try with_reducible rfl)
    try simp only [Act.put, List.getElem_toArray, List.getElem_cons_zero, List.getElem_cons_succ, List.setIfInBounds_toArray, List.set_cons_zero, List.set_cons_succ]
    refine wpAnyH_take (i := 4) (v := undef) rfl (by kernel_rfl) (by kernel_rfl) (by kernel_rfl) (fun _ _ _ h => h) (Or.inr ⟨by kernel_rfl, rfl⟩) (by assumption) ?_
    try simp only [Act.put, List.getElem_toArray, List.getElem_cons_zero, List.getElem_cons_succ, List.setIfInBounds_toArray, List.set_cons_zero, List.set_cons_succ]
    refine wpAnyH_take (i := 5) (v := undef) rfl (by kernel_rfl) (by kernel_rfl) (by kernel_rfl) (fun _ _ _ h => h) (Or.inr ⟨by kernel_rfl, rfl⟩) (by assumption) ?_
    try simp only [Act.put, List.getElem_toArray, List.getElem_cons_zero, List.getElem_cons_succ, List.setIfInBounds_toArray, List.set_cons_zero, List.set_cons_succ]
    refine wpAnyH_take (i := 6) (v := undef) rfl (by kernel_rfl) (by kernel_rfl) (by kernel_rfl) (fun _ _ _ h => h) (Or.inr ⟨by kernel_rfl, rfl⟩) (by assumption) ?_
    try simp only [Act.put, List.getElem_toArray, List.getElem_cons_zero, List.getElem_cons_succ, List.setIfInBounds_toArray, List.set_cons_zero, List.set_cons_succ]
    refine wpAnyH_take (i := 7) (v := undef) rfl (by kernel_rfl) (by kernel_rfl) (by kernel_rfl) (fun _ _ _ h => h) (Or.inr ⟨by kernel_rfl, rfl⟩) (by assumption) ?_
    try simp only [Act.put, List.getElem_toArray, List.getElem_cons_zero, List.getElem_cons_succ, List.setIfInBounds_toArray, List.set_cons_zero, List.set_cons_succ]
    refine wpAnyH_take (i := 8) (v := ?_) rfl (by kernel_rfl) (by kernel_rfl) (by kernel_rfl) (fun _ _ _ h => h) (Or.inl ⟨by kernel_rfl, ?hy8⟩) (by assumption) ?_
    case hy8 => (intro w hSw; (try dsimp only at hSw); obtain ⟨t00, t01, t02, t03⟩ := (HA.out.on hSw).all; go_simp; try with_reducible rfl)
    try simp only [Act.put, List.getElem_toArray, List.getElem_cons_zero, List.getElem_cons_succ, List.setIfInBounds_toArray, List.set_cons_zero, List.set_cons_succ]
    refine wpAnyH_take (i := 9) (v := ?_) rfl (by kernel_rfl) (by kernel_rfl) (by kernel_rfl) (fun _ _ _ h => h) (Or.inl ⟨by kernel_rfl, ?hy9⟩) (by assumption) ?_
    case hy9 => (intro w hSw; (try dsimp only at hSw); obtain ⟨t00, t01, t02, t03⟩ := (HA.out.on hSw).all; go_simp; try with_reducible rfl)
    try simp only [Act.put, List.getElem_toArray, List.getElem_cons_zero, List.getElem_cons_succ, List.setIfInBounds_toArray, List.set_cons_zero, List.set_cons_succ]
    refine wpAnyH_done (by kernel_rfl) ?_ _
    go_wp2
    go_ret
    exact ⟨ret_bool (by simp), Below.on HW.out hHeld⟩
end Go.Proofs.YtmiapccngeafkaaDoor

/- The contract of the program's Cover. -/
namespace Go.Proofs.YtmiapccngeafkaaDoor
open Go Go.RowKit

def cvr (a b : Rc) : Rc := ⟨min a.x b.x, min a.y b.y, max (en a.x a.w) (en b.x b.w) - min a.x b.x, max (en a.y a.h) (en b.y b.h) - min a.y b.y⟩
/-- The cover. -/
def cov (a b : Rc) : Rc := if emp a = true then pln b else if emp b = true then a else cvr a b

theorem cov_emp1 {a : Rc} (h : emp a = true) (b : Rc) : cov a b = pln b := by rw [cov, if_pos h]
theorem cov_emp2 {a b : Rc} (h : emp a = false) (h' : emp b = true) : cov a b = a := by rw [cov, if_neg (by rw [h]; decide), if_pos h']
theorem cov_full {a b : Rc} (h : emp a = false) (h' : emp b = false) : cov a b = cvr a b := by rw [cov, if_neg (by rw [h]; decide), if_neg (by rw [h']; decide)]
theorem rceq_full {a : Rc} (h : emp a = false) : rceq a rz = false := by
  have hw := (sizes h).1
  have : ¬ a.w = 0 := by omega
  simp [rceq, rz, this]

theorem obj_on {u : World} {p : Nat} {cs : Array Value} {T : TypeId} (h : u.heap[p]? = some (.cells cs T (0, 0))) (o : Obj) : (u.alloc o).heap[p]? = some (.cells cs T (0, 0)) := by
  rw [Below.heap_alloc u o p (Array.getElem?_eq_some_iff.1 h).1]
  exact h

/-- What a store of a rectangle asks for, behind one more block. -/
theorem Bx.stores {u : World} {p : Nat} {a : Rc} (h : Bx u p a) :
    (∀ o, (u.alloc o).cell? ⟨p, 0, none⟩ = some (.int .i64 a.x)) ∧ (∀ o, (u.alloc o).frozen? ⟨p, 0, none⟩ = false) ∧
    (∀ v o, ((u.setCell ⟨p, 0, none⟩ v).alloc o).cell? ⟨p, 1, none⟩ = some (.int .i64 a.y)) ∧ (∀ v o, ((u.setCell ⟨p, 0, none⟩ v).alloc o).frozen? ⟨p, 1, none⟩ = false) ∧
    (∀ v v' o, (((u.setCell ⟨p, 0, none⟩ v).setCell ⟨p, 1, none⟩ v').alloc o).cell? ⟨p, 2, none⟩ = some (.int .i64 a.w)) ∧ (∀ v v' o, (((u.setCell ⟨p, 0, none⟩ v).setCell ⟨p, 1, none⟩ v').alloc o).frozen? ⟨p, 2, none⟩ = false) ∧
    (∀ v v' v'' o, ((((u.setCell ⟨p, 0, none⟩ v).setCell ⟨p, 1, none⟩ v').setCell ⟨p, 2, none⟩ v'').alloc o).cell? ⟨p, 3, none⟩ = some (.int .i64 a.h)) ∧ (∀ v v' v'' o, ((((u.setCell ⟨p, 0, none⟩ v).setCell ⟨p, 1, none⟩ v').setCell ⟨p, 2, none⟩ v'').alloc o).frozen? ⟨p, 3, none⟩ = false) := by
  have h0 := h.obj
  have h1 := fun v => heap_setCell_same u p 0 _ _ v h0
  have h2 := fun v v' => heap_setCell_same _ p 1 _ _ v' (h1 v)
  have h3 := fun v v' v'' => heap_setCell_same _ p 2 _ _ v'' (h2 v v')
  refine ⟨fun o => ?_, fun o => Lib.frozen_of_heap (obj_on h0 o) 0, fun v o => ?_, fun v o => Lib.frozen_of_heap (obj_on (h1 v) o) 1, fun v v' o => ?_, fun v v' o => Lib.frozen_of_heap (obj_on (h2 v v') o) 2, fun v v' v'' o => ?_, fun v v' v'' o => Lib.frozen_of_heap (obj_on (h3 v v' v'') o) 3⟩
  · rw [World.cell?, obj_on h0 o]; rfl
  · rw [World.cell?, obj_on (h1 v) o]; rfl
  · rw [World.cell?, obj_on (h2 v v') o]; rfl
  · rw [World.cell?, obj_on (h3 v v' v'') o]; rfl

set_option maxRecDepth 100000 in
set_option maxHeartbeats 1000000 in
theorem cover_any (a b : Rc) (ha : a.Ok) (hb : b.Ok) (hd : emp a = false → emp b = false → (cvr a b).Ok) (w : World) : Calls Tryd.prog 64 #[.agg #[.int .i64 a.x, .int .i64 a.y, .int .i64 a.w, .int .i64 a.h], .agg #[.int .i64 b.x, .int .i64 b.y, .int .i64 b.w, .int .i64 b.h]] w fun e w' => e = .returned (.agg #[.int .i64 (cov a b).x, .int .i64 (cov a b).y, .int .i64 (cov a b).w, .int .i64 (cov a b).h]) ∧ Below w.heap.size w w' := by
  have CA := hid (fun w => plain_any a w)
  have CB := hid (fun w => plain_any b w)
  have hg := eqlR_guard
  go_enter Tryd.func64, Tryd.ntmps64
  go_upto_region 1 with fail
  go_cut [] (fun wc => Bx wc w.heap.size (pln a) ∧ Bx wc (w.heap.size + 1) (pln b) ∧ Bx wc (w.heap.size + 1 + 1) rz ∧ Below w.heap.size w wc)
  case first =>
    go_region_with (first | (go_at_call 73; refine (CA.out _).mono ?_; rintro e u ⟨rfl, hb1⟩; obtain ⟨hA, hB, hR, hw⟩ := box3 a b rz (Below.on (Below.refl _ _).drew hb1); obtain ⟨c0, c1, c2, c3⟩ := hB.all) | (go_at_call 73; refine (CB.out _).mono ?_; rintro e v ⟨rfl, hb2⟩; have hA2 := hA.on hb2; have hB2 := hB.on hb2; have hR2 := hR.on hb2; have hw2 := Below.on hw hb2; clear hA hB hR hw c0 c1 c2 c3; obtain ⟨c0, c1, c2, c3⟩ := hA2.all; obtain ⟨d0, d1, d2, d3⟩ := hB2.all; have f0 := hA2.fz; have f1 := hB2.fz))
    all_goals
      go_wp2_with fail
      go_meet
      exact ⟨(hA2.st (pln a)).st_other (by omega) (pln b), (hB2.st_other (by omega) (pln a)).st (pln b), (hR2.st_other (by omega) (pln a)).st_other (by omega) (pln b), below_st (below_st hw2 (Nat.le_refl _) (pln a)) (by omega) (pln b)⟩
  case rest =>
    obtain ⟨hA, hB, hR, hw⟩ := hcut
    clear CA CB
    have HR := hid hR
    have HW := hid hw
    have aA := fun o => (hA.on (below_new wc o)).all
    have aB := fun o => (hB.on (below_new wc o)).all
    have a0 := fun o => (aA o).1
    have a1 := fun o => (aA o).2.1
    have a2 := fun o => (aA o).2.2.1
    have a3 := fun o => (aA o).2.2.2
    have b0 := fun o => (aB o).1
    have b1 := fun o => (aB o).2.1
    have b2 := fun o => (aB o).2.2.1
    have b3 := fun o => (aB o).2.2.2
    obtain ⟨r0, f0, r1, f1, r2, f2, r3, f3⟩ := hR.stores
    have ltR := hR.lt
    clear aA aB
    have q1 := eqlR (pln a) rz
    have q2 := eqlR (pln b) rz
    clear hw
    simp only [rz] at q1 q2
    cases he : emp a
    · have v1 : rceq (pln a) ⟨0, 0, 0, 0⟩ = false := by rw [pln_full he]; exact rceq_full he
      rw [v1] at q1
      cases hf : emp b
      · have v2 : rceq (pln b) ⟨0, 0, 0, 0⟩ = false := by rw [pln_full hf]; exact rceq_full hf
        rw [v2] at q2
        obtain ⟨z1, z2⟩ := sizes he
        obtain ⟨z3, z4⟩ := sizes hf
        have hdd := hd he hf
        have g1 := hdd.w
        have g2 := hdd.h
        simp only [cvr] at g1 g2
        rw [pln_full he] at hA q1 a0 a1 a2 a3
        rw [pln_full hf] at hB q2 b0 b1 b2 b3
        have C1 := hid (fun w => end_any a.x a.w ha.x ⟨z1, ha.w.2⟩ w)
        have C2 := hid (fun w => end_any b.x b.w hb.x ⟨z3, hb.w.2⟩ w)
        have C3 := hid (fun w => end_any a.y a.h ha.y ⟨z2, ha.h.2⟩ w)
        have C4 := hid (fun w => end_any b.y b.h hb.y ⟨z4, hb.h.2⟩ w)
        have HC := hid (cov_full he hf)
        have HA1 := hid (hA.on (below_new wc (.cells #[.int .i64 0, .int .i64 0, .int .i64 0, .int .i64 0] 24)))
        have HB1 := hid (hB.on (below_new wc (.cells #[.int .i64 0, .int .i64 0, .int .i64 0, .int .i64 0] 24)))
        have HA2 := hid HA1.out.drew
        have HB2 := hid HB1.out.drew
        clear z1 z2 z3 z4 hdd ha hb hd v1 v2 hA hB hR he hf
        go_upto_region 7 with fail
        refine wp_region_held_drew (S := fun x => Below (wc.alloc (.cells #[.int .i64 0, .int .i64 0, .int .i64 0, .int .i64 0] 24)).heap.size (wc.alloc (.cells #[.int .i64 0, .int .i64 0, .int .i64 0, .int .i64 0] 24)) x) (by kernel_rfl) (Below.refl _ _).drew (fun hHeld => ?_)
        have hHeld : Below (wc.alloc (.cells #[.int .i64 0, .int .i64 0, .int .i64 0, .int .i64 0] 24)).heap.size (wc.alloc (.cells #[.int .i64 0, .int .i64 0, .int .i64 0, .int .i64 0] 24)) (wc.alloc (.cells #[.int .i64 0, .int .i64 0, .int .i64 0, .int .i64 0] 24)).drew := hHeld
        refine wpAnyH_take (i := 0) (v := ?_) rfl (by kernel_rfl) (by kernel_rfl) (by kernel_rfl) (fun _ _ _ h => h) (Or.inl ⟨by kernel_rfl, ?hy0⟩) (by assumption) ?_
        case hy0 => (intro w hSw; (try dsimp only at hSw); obtain ⟨t00, t01, t02, t03⟩ := (HA1.out.on hSw).all; obtain ⟨t10, t11, t12, t13⟩ := (HB1.out.on hSw).all; go_simp; try with_reducible rfl)
        try simp only [Act.put, List.getElem_toArray, List.getElem_cons_zero, List.setIfInBounds_toArray, List.set_cons_zero, List.set_cons_succ]
        refine wpAnyH_take (i := 1) (v := ?_) rfl (by kernel_rfl) (by kernel_rfl) (by kernel_rfl) (fun _ _ _ h => h) (Or.inl ⟨by kernel_rfl, ?hy1⟩) (by assumption) ?_
        case hy1 => (intro w hSw; (try dsimp only at hSw); obtain ⟨t00, t01, t02, t03⟩ := (HA1.out.on hSw).all; obtain ⟨t10, t11, t12, t13⟩ := (HB1.out.on hSw).all; go_simp; try with_reducible rfl)
        try simp only [Act.put, List.getElem_toArray, List.getElem_cons_zero, List.getElem_cons_succ, List.setIfInBounds_toArray, List.set_cons_zero, List.set_cons_succ]
        refine wpAnyH_take (i := 2) (v := ?_) rfl (by kernel_rfl) (by kernel_rfl) (by kernel_rfl) (fun _ _ _ h => h) (Or.inl ⟨by kernel_rfl, ?hy2⟩) (by assumption) ?_
        case hy2 => (intro w hSw; (try dsimp only at hSw); obtain ⟨t00, t01, t02, t03⟩ := (HA1.out.on hSw).all; obtain ⟨t10, t11, t12, t13⟩ := (HB1.out.on hSw).all; go_simp; try with_reducible rfl)
        try simp only [Act.put, List.getElem_toArray, List.getElem_cons_zero, List.getElem_cons_succ, List.setIfInBounds_toArray, List.set_cons_zero, List.set_cons_succ]
        refine wpAnyH_take (i := 3) (v := ?_) rfl (by kernel_rfl) (by kernel_rfl) (by kernel_rfl) (fun _ _ _ h => h) (Or.inl ⟨by kernel_rfl, ?hy3⟩) (by assumption) ?_
        case hy3 => (intro w hSw; (try dsimp only at hSw); obtain ⟨t00, t01, t02, t03⟩ := (HA1.out.on hSw).all; obtain ⟨t10, t11, t12, t13⟩ := (HB1.out.on hSw).all; go_simp; try with_reducible rfl)
        try simp only [Act.put, List.getElem_toArray, List.getElem_cons_zero, List.getElem_cons_succ, List.setIfInBounds_toArray, List.set_cons_zero, List.set_cons_succ]
        refine wpAnyH_take (i := 4) (v := ?_) rfl (by kernel_rfl) (by kernel_rfl) (by kernel_rfl) (fun _ _ _ h => h) (Or.inl ⟨by kernel_rfl, ?hy4⟩) (by assumption) ?_
        case hy4 => (intro w hSw; (try dsimp only at hSw); obtain ⟨t00, t01, t02, t03⟩ := (HA1.out.on hSw).all; obtain ⟨t10, t11, t12, t13⟩ := (HB1.out.on hSw).all; go_simp; try with_reducible rfl)
        try simp only [Act.put, List.getElem_toArray, List.getElem_cons_zero, List.getElem_cons_succ, List.setIfInBounds_toArray, List.set_cons_zero, List.set_cons_succ]
        refine wpAnyH_take (i := 5) (v := ?_) rfl (by kernel_rfl) (by kernel_rfl) (by kernel_rfl) (fun _ _ _ h => h) (Or.inl ⟨by kernel_rfl, ?hy5⟩) (by assumption) ?_
        case hy5 => (intro w hSw; (try dsimp only at hSw); obtain ⟨t00, t01, t02, t03⟩ := (HA1.out.on hSw).all; obtain ⟨t10, t11, t12, t13⟩ := (HB1.out.on hSw).all; go_simp; try with_reducible rfl)
        try simp only [Act.put, List.getElem_toArray, List.getElem_cons_zero, List.getElem_cons_succ, List.setIfInBounds_toArray, List.set_cons_zero, List.set_cons_succ]
        refine wpAnyH_take (i := 6) (v := ?_) rfl (by kernel_rfl) (by kernel_rfl) (by kernel_rfl) (fun _ _ _ h => h) (Or.inl ⟨by kernel_rfl, ?hy6⟩) (by assumption) ?_
        case hy6 => (intro w hSw; (try dsimp only at hSw); obtain ⟨t00, t01, t02, t03⟩ := (HA1.out.on hSw).all; obtain ⟨t10, t11, t12, t13⟩ := (HB1.out.on hSw).all; go_simp; try with_reducible rfl)
        try simp only [Act.put, List.getElem_toArray, List.getElem_cons_zero, List.getElem_cons_succ, List.setIfInBounds_toArray, List.set_cons_zero, List.set_cons_succ]
        refine wpAnyH_take (i := 7) (v := ?_) rfl (by kernel_rfl) (by kernel_rfl) (by kernel_rfl) (fun _ _ _ h => h) (Or.inl ⟨by kernel_rfl, ?hy7⟩) (by assumption) ?_
        case hy7 => (intro w hSw; (try dsimp only at hSw); obtain ⟨t00, t01, t02, t03⟩ := (HA1.out.on hSw).all; obtain ⟨t10, t11, t12, t13⟩ := (HB1.out.on hSw).all; go_simp; try with_reducible rfl)
        try simp only [Act.put, List.getElem_toArray, List.getElem_cons_zero, List.getElem_cons_succ, List.setIfInBounds_toArray, List.set_cons_zero, List.set_cons_succ]
        refine wpAnyH_take (i := 8) (v := ?_) rfl (by kernel_rfl) (by kernel_rfl) (by kernel_rfl) (fun _ _ _ h => h) (Or.inl ⟨by kernel_rfl, ?hy8⟩) (by assumption) ?_
        case hy8 => (intro w hSw; (try dsimp only at hSw); obtain ⟨t00, t01, t02, t03⟩ := (HA1.out.on hSw).all; obtain ⟨t10, t11, t12, t13⟩ := (HB1.out.on hSw).all; go_simp; try with_reducible rfl)
        try simp only [Act.put, List.getElem_toArray, List.getElem_cons_zero, List.getElem_cons_succ, List.setIfInBounds_toArray, List.set_cons_zero, List.set_cons_succ]
        refine wpAnyH_take (i := 10) (v := ?_) rfl (by kernel_rfl) (by kernel_rfl) (by kernel_rfl) (fun _ _ _ h => h) (Or.inl ⟨by kernel_rfl, ?hy10⟩) (by assumption) ?_
        case hy10 => (intro w hSw; (try dsimp only at hSw); obtain ⟨t00, t01, t02, t03⟩ := (HA1.out.on hSw).all; obtain ⟨t10, t11, t12, t13⟩ := (HB1.out.on hSw).all; go_simp; try with_reducible rfl)
        try simp only [Act.put, List.getElem_toArray, List.getElem_cons_zero, List.getElem_cons_succ, List.setIfInBounds_toArray, List.set_cons_zero, List.set_cons_succ]
        refine wpAnyH_take (i := 11) (v := ?_) rfl (by kernel_rfl) (by kernel_rfl) (by kernel_rfl) (fun _ _ _ h => h) (Or.inl ⟨by kernel_rfl, ?hy11⟩) (by assumption) ?_
        case hy11 => (intro w hSw; (try dsimp only at hSw); obtain ⟨t00, t01, t02, t03⟩ := (HA1.out.on hSw).all; obtain ⟨t10, t11, t12, t13⟩ := (HB1.out.on hSw).all; go_simp; try with_reducible rfl)
        try simp only [Act.put, List.getElem_toArray, List.getElem_cons_zero, List.getElem_cons_succ, List.setIfInBounds_toArray, List.set_cons_zero, List.set_cons_succ]
        refine wpAnyH_take (i := 12) (v := ?_) rfl (by kernel_rfl) (by kernel_rfl) (by kernel_rfl) (fun _ _ _ h => h) (Or.inl ⟨by kernel_rfl, ?hy12⟩) (by assumption) ?_
        case hy12 => (intro w hSw; (try dsimp only at hSw); obtain ⟨t00, t01, t02, t03⟩ := (HA1.out.on hSw).all; obtain ⟨t10, t11, t12, t13⟩ := (HB1.out.on hSw).all; go_simp; try with_reducible rfl)
        try simp only [Act.put, List.getElem_toArray, List.getElem_cons_zero, List.getElem_cons_succ, List.setIfInBounds_toArray, List.set_cons_zero, List.set_cons_succ]
        refine wpAnyH_take (i := 13) (v := ?_) rfl (by kernel_rfl) (by kernel_rfl) (by kernel_rfl) (fun _ _ _ h => h) (Or.inl ⟨by kernel_rfl, ?hy13⟩) (by assumption) ?_
        case hy13 => (intro w hSw; (try dsimp only at hSw); obtain ⟨t00, t01, t02, t03⟩ := (HA1.out.on hSw).all; obtain ⟨t10, t11, t12, t13⟩ := (HB1.out.on hSw).all; go_simp; try with_reducible rfl)
        try simp only [Act.put, List.getElem_toArray, List.getElem_cons_zero, List.getElem_cons_succ, List.setIfInBounds_toArray, List.set_cons_zero, List.set_cons_succ]
        refine wpAnyH_ready (rs := [9]) (by kernel_rfl) (by simp) ?_
        refine AllReadyH.cons rfl (fun K hK => ?_) AllReadyH.nil
        go_simp
        go_wp2_with fail
        refine (C1.out _).mono ?_
        rintro e u209 ⟨rfl, rfl⟩
        refine hK.out _ _ hHeld (fun _ => ?_)
        clear hK K
        refine wpAnyH_ready (rs := [14]) (by kernel_rfl) (by simp) ?_
        refine AllReadyH.cons rfl (fun K hK => ?_) AllReadyH.nil
        go_simp
        go_wp2_with fail
        refine (C2.out _).mono ?_
        rintro e u214 ⟨rfl, rfl⟩
        refine hK.out _ _ hHeld (fun _ => ?_)
        clear hK K
        refine wpAnyH_take (i := 15) (v := ?_) rfl (by kernel_rfl) (by kernel_rfl) (by kernel_rfl) (fun _ _ _ h => h) (Or.inl ⟨by kernel_rfl, ?hy15⟩) (by assumption) ?_
        case hy15 => (intro w hSw; (try dsimp only at hSw); obtain ⟨t00, t01, t02, t03⟩ := (HA1.out.on hSw).all; obtain ⟨t10, t11, t12, t13⟩ := (HB1.out.on hSw).all; go_simp; try with_reducible rfl)
        try simp only [Act.put, List.getElem_toArray, List.getElem_cons_zero, List.getElem_cons_succ, List.setIfInBounds_toArray, List.set_cons_zero, List.set_cons_succ]
        refine wpAnyH_take (i := 16) (v := ?_) rfl (by kernel_rfl) (by kernel_rfl) (by kernel_rfl) (fun _ _ _ h => h) (Or.inl ⟨by kernel_rfl, ?hy16⟩) (by assumption) ?_
        case hy16 => (intro w hSw; (try dsimp only at hSw); obtain ⟨t00, t01, t02, t03⟩ := (HA1.out.on hSw).all; obtain ⟨t10, t11, t12, t13⟩ := (HB1.out.on hSw).all; go_simp; try with_reducible rfl)
        try simp only [Act.put, List.getElem_toArray, List.getElem_cons_zero, List.getElem_cons_succ, List.setIfInBounds_toArray, List.set_cons_zero, List.set_cons_succ]
        refine wpAnyH_take (i := 17) (v := ?_) rfl (by kernel_rfl) (by kernel_rfl) (by kernel_rfl) (fun _ _ _ h => h) (Or.inl ⟨by kernel_rfl, ?hy17⟩) (by assumption) ?_
        case hy17 => (intro w hSw; (try dsimp only at hSw); obtain ⟨t00, t01, t02, t03⟩ := (HA1.out.on hSw).all; obtain ⟨t10, t11, t12, t13⟩ := (HB1.out.on hSw).all; go_simp; try with_reducible rfl)
        try simp only [Act.put, List.getElem_toArray, List.getElem_cons_zero, List.getElem_cons_succ, List.setIfInBounds_toArray, List.set_cons_zero, List.set_cons_succ]
        refine wpAnyH_done (by kernel_rfl) ?_ _
        clear hHeld
        go_upto_region 8 with fail
        refine wp_region_held_drew (S := fun x => Below ((wc.alloc (.cells #[.int .i64 0, .int .i64 0, .int .i64 0, .int .i64 0] 24)).drew).heap.size ((wc.alloc (.cells #[.int .i64 0, .int .i64 0, .int .i64 0, .int .i64 0] 24)).drew) x) (by kernel_rfl) (Below.refl _ _).drew (fun hHeld => ?_)
        have hHeld : Below ((wc.alloc (.cells #[.int .i64 0, .int .i64 0, .int .i64 0, .int .i64 0] 24)).drew).heap.size ((wc.alloc (.cells #[.int .i64 0, .int .i64 0, .int .i64 0, .int .i64 0] 24)).drew) ((wc.alloc (.cells #[.int .i64 0, .int .i64 0, .int .i64 0, .int .i64 0] 24)).drew).drew := hHeld
        refine wpAnyH_take (i := 0) (v := ?_) rfl (by kernel_rfl) (by kernel_rfl) (by kernel_rfl) (fun _ _ _ h => h) (Or.inl ⟨by kernel_rfl, ?hy0⟩) (by assumption) ?_
        case hy0 => (intro w hSw; (try dsimp only at hSw); obtain ⟨t00, t01, t02, t03⟩ := (HA2.out.on hSw).all; obtain ⟨t10, t11, t12, t13⟩ := (HB2.out.on hSw).all; go_simp; try with_reducible rfl)
        try simp only [Act.put, List.getElem_toArray, List.getElem_cons_zero, List.setIfInBounds_toArray, List.set_cons_zero, List.set_cons_succ]
        refine wpAnyH_take (i := 1) (v := ?_) rfl (by kernel_rfl) (by kernel_rfl) (by kernel_rfl) (fun _ _ _ h => h) (Or.inl ⟨by kernel_rfl, ?hy1⟩) (by assumption) ?_
        case hy1 => (intro w hSw; (try dsimp only at hSw); obtain ⟨t00, t01, t02, t03⟩ := (HA2.out.on hSw).all; obtain ⟨t10, t11, t12, t13⟩ := (HB2.out.on hSw).all; go_simp; try with_reducible rfl)
        try simp only [Act.put, List.getElem_toArray, List.getElem_cons_zero, List.getElem_cons_succ, List.setIfInBounds_toArray, List.set_cons_zero, List.set_cons_succ]
        refine wpAnyH_take (i := 2) (v := ?_) rfl (by kernel_rfl) (by kernel_rfl) (by kernel_rfl) (fun _ _ _ h => h) (Or.inl ⟨by kernel_rfl, ?hy2⟩) (by assumption) ?_
        case hy2 => (intro w hSw; (try dsimp only at hSw); obtain ⟨t00, t01, t02, t03⟩ := (HA2.out.on hSw).all; obtain ⟨t10, t11, t12, t13⟩ := (HB2.out.on hSw).all; go_simp; try with_reducible rfl)
        try simp only [Act.put, List.getElem_toArray, List.getElem_cons_zero, List.getElem_cons_succ, List.setIfInBounds_toArray, List.set_cons_zero, List.set_cons_succ]
        refine wpAnyH_take (i := 3) (v := ?_) rfl (by kernel_rfl) (by kernel_rfl) (by kernel_rfl) (fun _ _ _ h => h) (Or.inl ⟨by kernel_rfl, ?hy3⟩) (by assumption) ?_
        case hy3 => (intro w hSw; (try dsimp only at hSw); obtain ⟨t00, t01, t02, t03⟩ := (HA2.out.on hSw).all; obtain ⟨t10, t11, t12, t13⟩ := (HB2.out.on hSw).all; go_simp; try with_reducible rfl)
        try simp only [Act.put, List.getElem_toArray, List.getElem_cons_zero, List.getElem_cons_succ, List.setIfInBounds_toArray, List.set_cons_zero, List.set_cons_succ]
        refine wpAnyH_take (i := 4) (v := ?_) rfl (by kernel_rfl) (by kernel_rfl) (by kernel_rfl) (fun _ _ _ h => h) (Or.inl ⟨by kernel_rfl, ?hy4⟩) (by assumption) ?_
        case hy4 => (intro w hSw; (try dsimp only at hSw); obtain ⟨t00, t01, t02, t03⟩ := (HA2.out.on hSw).all; obtain ⟨t10, t11, t12, t13⟩ := (HB2.out.on hSw).all; go_simp; try with_reducible rfl)
        try simp only [Act.put, List.getElem_toArray, List.getElem_cons_zero, List.getElem_cons_succ, List.setIfInBounds_toArray, List.set_cons_zero, List.set_cons_succ]
        refine wpAnyH_take (i := 5) (v := ?_) rfl (by kernel_rfl) (by kernel_rfl) (by kernel_rfl) (fun _ _ _ h => h) (Or.inl ⟨by kernel_rfl, ?hy5⟩) (by assumption) ?_
        case hy5 => (intro w hSw; (try dsimp only at hSw); obtain ⟨t00, t01, t02, t03⟩ := (HA2.out.on hSw).all; obtain ⟨t10, t11, t12, t13⟩ := (HB2.out.on hSw).all; go_simp; try with_reducible rfl)
        try simp only [Act.put, List.getElem_toArray, List.getElem_cons_zero, List.getElem_cons_succ, List.setIfInBounds_toArray, List.set_cons_zero, List.set_cons_succ]
        refine wpAnyH_take (i := 6) (v := ?_) rfl (by kernel_rfl) (by kernel_rfl) (by kernel_rfl) (fun _ _ _ h => h) (Or.inl ⟨by kernel_rfl, ?hy6⟩) (by assumption) ?_
        case hy6 => (intro w hSw; (try dsimp only at hSw); obtain ⟨t00, t01, t02, t03⟩ := (HA2.out.on hSw).all; obtain ⟨t10, t11, t12, t13⟩ := (HB2.out.on hSw).all; go_simp; try with_reducible rfl)
        try simp only [Act.put, List.getElem_toArray, List.getElem_cons_zero, List.getElem_cons_succ, List.setIfInBounds_toArray, List.set_cons_zero, List.set_cons_succ]
        refine wpAnyH_take (i := 7) (v := ?_) rfl (by kernel_rfl) (by kernel_rfl) (by kernel_rfl) (fun _ _ _ h => h) (Or.inl ⟨by kernel_rfl, ?hy7⟩) (by assumption) ?_
        case hy7 => (intro w hSw; (try dsimp only at hSw); obtain ⟨t00, t01, t02, t03⟩ := (HA2.out.on hSw).all; obtain ⟨t10, t11, t12, t13⟩ := (HB2.out.on hSw).all; go_simp; try with_reducible rfl)
        try simp only [Act.put, List.getElem_toArray, List.getElem_cons_zero, List.getElem_cons_succ, List.setIfInBounds_toArray, List.set_cons_zero, List.set_cons_succ]
        refine wpAnyH_take (i := 8) (v := ?_) rfl (by kernel_rfl) (by kernel_rfl) (by kernel_rfl) (fun _ _ _ h => h) (Or.inl ⟨by kernel_rfl, ?hy8⟩) (by assumption) ?_
        case hy8 => (intro w hSw; (try dsimp only at hSw); obtain ⟨t00, t01, t02, t03⟩ := (HA2.out.on hSw).all; obtain ⟨t10, t11, t12, t13⟩ := (HB2.out.on hSw).all; go_simp; try with_reducible rfl)
        try simp only [Act.put, List.getElem_toArray, List.getElem_cons_zero, List.getElem_cons_succ, List.setIfInBounds_toArray, List.set_cons_zero, List.set_cons_succ]
        refine wpAnyH_take (i := 10) (v := ?_) rfl (by kernel_rfl) (by kernel_rfl) (by kernel_rfl) (fun _ _ _ h => h) (Or.inl ⟨by kernel_rfl, ?hy10⟩) (by assumption) ?_
        case hy10 => (intro w hSw; (try dsimp only at hSw); obtain ⟨t00, t01, t02, t03⟩ := (HA2.out.on hSw).all; obtain ⟨t10, t11, t12, t13⟩ := (HB2.out.on hSw).all; go_simp; try with_reducible rfl)
        try simp only [Act.put, List.getElem_toArray, List.getElem_cons_zero, List.getElem_cons_succ, List.setIfInBounds_toArray, List.set_cons_zero, List.set_cons_succ]
        refine wpAnyH_take (i := 11) (v := ?_) rfl (by kernel_rfl) (by kernel_rfl) (by kernel_rfl) (fun _ _ _ h => h) (Or.inl ⟨by kernel_rfl, ?hy11⟩) (by assumption) ?_
        case hy11 => (intro w hSw; (try dsimp only at hSw); obtain ⟨t00, t01, t02, t03⟩ := (HA2.out.on hSw).all; obtain ⟨t10, t11, t12, t13⟩ := (HB2.out.on hSw).all; go_simp; try with_reducible rfl)
        try simp only [Act.put, List.getElem_toArray, List.getElem_cons_zero, List.getElem_cons_succ, List.setIfInBounds_toArray, List.set_cons_zero, List.set_cons_succ]
        refine wpAnyH_take (i := 12) (v := ?_) rfl (by kernel_rfl) (by kernel_rfl) (by kernel_rfl) (fun _ _ _ h => h) (Or.inl ⟨by kernel_rfl, ?hy12⟩) (by assumption) ?_
        case hy12 => (intro w hSw; (try dsimp only at hSw); obtain ⟨t00, t01, t02, t03⟩ := (HA2.out.on hSw).all; obtain ⟨t10, t11, t12, t13⟩ := (HB2.out.on hSw).all; go_simp; try with_reducible rfl)
        try simp only [Act.put, List.getElem_toArray, List.getElem_cons_zero, List.getElem_cons_succ, List.setIfInBounds_toArray, List.set_cons_zero, List.set_cons_succ]
        refine wpAnyH_take (i := 13) (v := ?_) rfl (by kernel_rfl) (by kernel_rfl) (by kernel_rfl) (fun _ _ _ h => h) (Or.inl ⟨by kernel_rfl, ?hy13⟩) (by assumption) ?_
        case hy13 => (intro w hSw; (try dsimp only at hSw); obtain ⟨t00, t01, t02, t03⟩ := (HA2.out.on hSw).all; obtain ⟨t10, t11, t12, t13⟩ := (HB2.out.on hSw).all; go_simp; try with_reducible rfl)
        try simp only [Act.put, List.getElem_toArray, List.getElem_cons_zero, List.getElem_cons_succ, List.setIfInBounds_toArray, List.set_cons_zero, List.set_cons_succ]
        refine wpAnyH_ready (rs := [9]) (by kernel_rfl) (by simp) ?_
        refine AllReadyH.cons rfl (fun K hK => ?_) AllReadyH.nil
        go_simp
        go_wp2_with fail
        refine (C3.out _).mono ?_
        rintro e u209 ⟨rfl, rfl⟩
        refine hK.out _ _ hHeld (fun _ => ?_)
        clear hK K
        refine wpAnyH_ready (rs := [14]) (by kernel_rfl) (by simp) ?_
        refine AllReadyH.cons rfl (fun K hK => ?_) AllReadyH.nil
        go_simp
        go_wp2_with fail
        refine (C4.out _).mono ?_
        rintro e u214 ⟨rfl, rfl⟩
        refine hK.out _ _ hHeld (fun _ => ?_)
        clear hK K
        refine wpAnyH_take (i := 15) (v := ?_) rfl (by kernel_rfl) (by kernel_rfl) (by kernel_rfl) (fun _ _ _ h => h) (Or.inl ⟨by kernel_rfl, ?hy15⟩) (by assumption) ?_
        case hy15 => (intro w hSw; (try dsimp only at hSw); obtain ⟨t00, t01, t02, t03⟩ := (HA2.out.on hSw).all; obtain ⟨t10, t11, t12, t13⟩ := (HB2.out.on hSw).all; go_simp; try with_reducible rfl)
        try simp only [Act.put, List.getElem_toArray, List.getElem_cons_zero, List.getElem_cons_succ, List.setIfInBounds_toArray, List.set_cons_zero, List.set_cons_succ]
        refine wpAnyH_take (i := 16) (v := ?_) rfl (by kernel_rfl) (by kernel_rfl) (by kernel_rfl) (fun _ _ _ h => h) (Or.inl ⟨by kernel_rfl, ?hy16⟩) (by assumption) ?_
        case hy16 => (intro w hSw; (try dsimp only at hSw); obtain ⟨t00, t01, t02, t03⟩ := (HA2.out.on hSw).all; obtain ⟨t10, t11, t12, t13⟩ := (HB2.out.on hSw).all; go_simp; try with_reducible rfl)
        try simp only [Act.put, List.getElem_toArray, List.getElem_cons_zero, List.getElem_cons_succ, List.setIfInBounds_toArray, List.set_cons_zero, List.set_cons_succ]
        refine wpAnyH_take (i := 17) (v := ?_) rfl (by kernel_rfl) (by kernel_rfl) (by kernel_rfl) (fun _ _ _ h => h) (Or.inl ⟨by kernel_rfl, ?hy17⟩) (by assumption) ?_
        case hy17 => (intro w hSw; (try dsimp only at hSw); obtain ⟨t00, t01, t02, t03⟩ := (HA2.out.on hSw).all; obtain ⟨t10, t11, t12, t13⟩ := (HB2.out.on hSw).all; go_simp; try with_reducible rfl)
        try simp only [Act.put, List.getElem_toArray, List.getElem_cons_zero, List.getElem_cons_succ, List.setIfInBounds_toArray, List.set_cons_zero, List.set_cons_succ]
        refine wpAnyH_done (by kernel_rfl) ?_ _
        clear hHeld HA1 HA2 HB1 HB2 C1 C2 C3 C4
        go_wp2
        refine bodyPost_ret (results_cell_row rfl _ _ (w.heap.size + 1 + 1) _ _ _ _ rfl ((HR.out.st (cvr a b)).on (below_new _ _)).drew.drew.obj Tryd.underlying24 rfl infoR) rfl ?_
        exact ⟨by rw [HC.out], (Below.on (below_st HW.out (by omega) (cvr a b)) (below_new _ _)).drew.drew⟩
      · have v2 : rceq (pln b) ⟨0, 0, 0, 0⟩ = true := by rw [pln_emp hf]; rfl
        rw [v2] at q2
        have HC := hid (cov_emp2 he hf)
        rw [pln_full he] at q1 a0 a1 a2 a3
        clear ha hb hd v1 v2 hA hB hR he hf
        go_wp2
        refine bodyPost_ret (results_cell_row rfl _ _ (w.heap.size + 1 + 1) _ _ _ _ rfl ((HR.out.st a).on (below_new _ _)).obj Tryd.underlying24 rfl infoR) rfl ?_
        exact ⟨by rw [HC.out], Below.on (below_st HW.out (by omega) a) (below_new _ _)⟩
    · have v1 : rceq (pln a) ⟨0, 0, 0, 0⟩ = true := by rw [pln_emp he]; rfl
      rw [v1] at q1
      have HC := hid (cov_emp1 he b)
      clear ha hb hd v1 hA hB hR he
      go_wp2
      refine bodyPost_ret (results_cell_row rfl _ _ (w.heap.size + 1 + 1) _ _ _ _ rfl ((HR.out.st (pln b)).on (below_new _ _)).obj Tryd.underlying24 rfl infoR) rfl ?_
      exact ⟨by rw [HC.out], Below.on (below_st HW.out (by omega) (pln b)) (below_new _ _)⟩
end Go.Proofs.YtmiapccngeafkaaDoor

/- The document's own Check, Has, of, Cut, Cover, Shift, Bound. -/
namespace Go.Proofs.YtmiapccngeafkaaDoor
open Go Go.RowKit

def inn (v : Int) : Bool := decide (-16777216 ≤ v) && decide (v ≤ 16777216)
/-- The document's Check. -/
def dck (a : Rc) : Bool := !emp a && inn a.x && inn a.y && decide (a.w ≤ 16777216 - a.x) && decide (a.h ≤ 16777216 - a.y)

theorem inn_iff {v : Int} : inn v = true ↔ -16777216 ≤ v ∧ v ≤ 16777216 := by simp [inn]


set_option maxRecDepth 100000 in
theorem rhas_any (a : Rc) (ok : a.Ok) (x y : Int) (hx : -9223372036854775808 ≤ x ∧ x ≤ 9223372036854775807) (hy : -9223372036854775808 ≤ y ∧ y ≤ 9223372036854775807) (w : World) :
    Calls Tryd.prog 15 #[.agg #[.int .i64 a.x, .int .i64 a.y, .int .i64 a.w, .int .i64 a.h], .int .i64 x, .int .i64 y] w fun e w' => e = .returned (.bool (has a x y)) ∧ Below w.heap.size w w' := by
  have CE := hid (fun w => rempty_any a w)
  have HO := hid ok
  clear ok
  go_enter Tryd.func15, Tryd.ntmps15
  go_wp2_with fail
  refine (CE.out _).mono ?_
  rintro e w1 ⟨rfl, hb1⟩
  obtain ⟨hA, hw⟩ := box1 a hb1
  obtain ⟨c0, c1, c2, c3⟩ := hA.all
  cases he : emp a
  · obtain ⟨z1, z2⟩ := sizes he
    have CX := hid (fun w => rwithin_any a.x a.w x HO.out.x ⟨z1, HO.out.w.2⟩ hx w)
    have CY := hid (fun w => rwithin_any a.y a.h y HO.out.y ⟨z2, HO.out.h.2⟩ hy w)
    go_wp2_with fail
    refine (CX.out _).mono ?_
    rintro e w2 ⟨rfl, rfl⟩
    cases hx1 : wth a.x a.w x
    · go_wp2
      go_ret
      exact ⟨ret_bool (by simp [has, he, hx1]), hw⟩
    · go_wp2_with fail
      refine (CY.out _).mono ?_
      rintro e w2 ⟨rfl, rfl⟩
      go_wp2
      go_ret
      exact ⟨ret_bool (by simp [has, he, hx1]), hw⟩
  · go_wp2
    go_ret
    exact ⟨ret_bool (by simp [has, he]), hw⟩


set_option maxRecDepth 100000 in
theorem rof_any (x0 y0 x1 y1 : Int) (hx : ¬ x1 ≤ x0 → -9223372036854775808 ≤ x1 - x0 ∧ x1 - x0 ≤ 9223372036854775807) (hy : ¬ y1 ≤ y0 → -9223372036854775808 ≤ y1 - y0 ∧ y1 - y0 ≤ 9223372036854775807) (w : World) :
    Calls Tryd.prog 30 #[.int .i64 x0, .int .i64 y0, .int .i64 x1, .int .i64 y1] w fun e w' => e = .returned (.agg #[.int .i64 (oft x0 y0 x1 y1).x, .int .i64 (oft x0 y0 x1 y1).y, .int .i64 (oft x0 y0 x1 y1).w, .int .i64 (oft x0 y0 x1 y1).h]) ∧ Below w.heap.size w w' := by
  have HB := hid (bx_new w rz)
  have HW := hid (below_new w (.cells #[.int .i64 0, .int .i64 0, .int .i64 0, .int .i64 0] 24))
  by_cases h1 : x1 ≤ x0
  · have e1 : decide (x1 ≤ x0) = true := decide_eq_true h1
    rw [oft_left h1]
    clear hx hy
    go_enter Tryd.func30, Tryd.ntmps30
    go_wp2
    refine bodyPost_ret (results_cell_row rfl _ _ w.heap.size _ _ _ _ rfl (heap_alloc_new w _) Tryd.underlying24 rfl infoR) rfl ?_
    exact ⟨rfl, below_new w _⟩
  · have e1 : decide (x1 ≤ x0) = false := decide_eq_false h1
    by_cases h2 : y1 ≤ y0
    · have e2 : decide (y1 ≤ y0) = true := decide_eq_true h2
      rw [oft_top h2]
      clear hx hy
      go_enter Tryd.func30, Tryd.ntmps30
      go_wp2
      refine bodyPost_ret (results_cell_row rfl _ _ w.heap.size _ _ _ _ rfl (heap_alloc_new w _) Tryd.underlying24 rfl infoR) rfl ?_
      exact ⟨rfl, below_new w _⟩
    · have e2 : decide (y1 ≤ y0) = false := decide_eq_false h2
      rw [oft_full h1 h2]
      have g1 := hx h1
      have g2 := hy h2
      clear hx hy
      go_enter Tryd.func30, Tryd.ntmps30
      go_wp2
      refine bodyPost_ret (results_cell_row rfl _ _ w.heap.size _ _ _ _ rfl (heap_alloc_new w _) Tryd.underlying24 rfl infoR) rfl ?_
      exact ⟨rfl, below_new w _⟩
end Go.Proofs.YtmiapccngeafkaaDoor

/- The document's own Cut, Cover, Bound; may, awake. -/
namespace Go.Proofs.YtmiapccngeafkaaDoor
open Go Go.RowKit

/-- A rectangle that may be and has points. -/
structure Ck (a : Rc) : Prop where
  w : 1 ≤ a.w
  h : 1 ≤ a.h
  x : -16777216 ≤ a.x
  y : -16777216 ≤ a.y
  r : a.x + a.w ≤ 16777216
  b : a.y + a.h ≤ 16777216

theorem dck_iff {a : Rc} : dck a = true ↔ Ck a := by
  simp only [dck, inn, emp, Bool.and_eq_true, Bool.not_eq_true', Bool.or_eq_false_iff, decide_eq_true_eq, decide_eq_false_iff_not]
  exact ⟨fun ⟨⟨⟨⟨⟨h1, h2⟩, h3, h4⟩, h5, h6⟩, h7⟩, h8⟩ => ⟨by omega, by omega, h3, h5, by omega, by omega⟩, fun ⟨h1, h2, h3, h4, h5, h6⟩ => ⟨⟨⟨⟨⟨by omega, by omega⟩, h3, by omega⟩, h4, by omega⟩, by omega⟩, by omega⟩⟩
theorem Ck.emp {a : Rc} (h : Ck a) : emp a = false := by
  have h1 := h.w
  have h2 := h.h
  simp [Go.Proofs.YtmiapccngeafkaaDoor.emp]
  omega
theorem Ck.ok {a : Rc} (h : Ck a) : a.Ok := by
  obtain ⟨h1, h2, h3, h4, h5, h6⟩ := h
  exact ⟨by omega, by omega, by omega, by omega⟩
theorem Ck.enx {a : Rc} (h : Ck a) : en a.x a.w = a.x + a.w := by
  have := h.r
  rw [en, if_pos (by omega)]
theorem Ck.eny {a : Rc} (h : Ck a) : en a.y a.h = a.y + a.h := by
  have := h.b
  rw [en, if_pos (by omega)]

/-- What is asked of: a rectangle that may be, or an empty one. -/
def may (a : Rc) : Bool := dck a || emp a
theorem may_cases {a : Rc} (h : may a = true) : emp a = true ∨ Ck a := by
  simp only [may, Bool.or_eq_true] at h
  rcases h with h | h
  · exact .inr (dck_iff.1 h)
  · exact .inl h

/-- Numbers that are not great, and points. -/
structure Cw (a : Rc) : Prop where
  w : 1 ≤ a.w
  h : 1 ≤ a.h
  x : -1099511627776 ≤ a.x ∧ a.x ≤ 1099511627776
  y : -1099511627776 ≤ a.y ∧ a.y ≤ 1099511627776
  w' : a.w ≤ 1099511627776
  h' : a.h ≤ 1099511627776
theorem Ck.cw {a : Rc} (h : Ck a) : Cw a := by
  obtain ⟨h1, h2, h3, h4, h5, h6⟩ := h
  exact ⟨by omega, by omega, by omega, by omega, by omega, by omega⟩
theorem Cw.enx {a : Rc} (h : Cw a) : en a.x a.w = a.x + a.w := by
  have := h.x
  have := h.w'
  rw [en, if_pos (by omega)]
theorem Cw.eny {a : Rc} (h : Cw a) : en a.y a.h = a.y + a.h := by
  have := h.y
  have := h.h'
  rw [en, if_pos (by omega)]


theorem oft_cvr {a b : Rc} (ka : Ck a) (kb : Ck b) : oft (min a.x b.x) (min a.y b.y) (max (a.x + a.w) (b.x + b.w)) (max (a.y + a.h) (b.y + b.h)) = cvr a b := by
  rw [cvr, ka.enx, ka.eny, kb.enx, kb.eny]
  obtain ⟨k1, k2, k3, k4, k5, k6⟩ := ka
  obtain ⟨l1, l2, l3, l4, l5, l6⟩ := kb
  rw [oft_full (by omega) (by omega)]

end Go.Proofs.YtmiapccngeafkaaDoor

/- The document's own Bound; may, awake; the program's Check is the document's. -/
namespace Go.Proofs.YtmiapccngeafkaaDoor
open Go Go.RowKit

theorem bnd_full {a : Rc} (he : emp a = false) : bnd a = oft (max a.x (-16777216)) (max a.y (-16777216)) (ed a.x a.w) (ed a.y a.h) := by
  rw [bnd, cut_full he (by decide)]
  have h1 : en fld.x fld.w = 16777216 := by decide
  have h2 : en fld.y fld.h = 16777216 := by decide
  have h3 : ∀ p s : Int, min (en p s) 16777216 = ed p s := fun p s => by
    unfold en ed
    split <;> split <;> omega
  rw [h1, h2, h3, h3]
  rfl

theorem bnd_emp {a : Rc} (he : emp a = true) : bnd a = rz := cut_emp1 he _

theorem chk_dck {a : Rc} (ok : a.Ok) : chk a = dck a := by
  apply Bool.eq_iff_iff.2
  rw [dck_iff, chk, Bool.and_eq_true, Bool.not_eq_true', rceq_iff]
  obtain ⟨⟨o1, o2⟩, ⟨o3, o4⟩, ⟨o5, o6⟩, o7, o8⟩ := ok
  constructor
  · rintro ⟨he, hq⟩
    obtain ⟨z1, z2⟩ := sizes he
    rw [bnd_full he] at hq
    by_cases h1 : ed a.x a.w ≤ max a.x (-16777216)
    · rw [oft_left h1] at hq
      rw [← hq] at z1
      exact absurd z1 (by decide)
    · by_cases h2 : ed a.y a.h ≤ max a.y (-16777216)
      · rw [oft_top h2] at hq
        rw [← hq] at z1
        exact absurd z1 (by decide)
      · rw [oft_full h1 h2] at hq
        have e1 := congrArg Rc.x hq
        have e2 := congrArg Rc.y hq
        have e3 := congrArg Rc.w hq
        have e4 := congrArg Rc.h hq
        simp only [ed] at e1 e2 e3 e4
        refine ⟨z1, z2, by omega, by omega, ?_, ?_⟩
        · split at e3 <;> omega
        · split at e4 <;> omega
  · intro k
    refine ⟨k.emp, ?_⟩
    rw [bnd_full k.emp]
    obtain ⟨k1, k2, k3, k4, k5, k6⟩ := k
    have e1 : ed a.x a.w = a.x + a.w := by rw [ed, if_pos k5]
    have e2 : ed a.y a.h = a.y + a.h := by rw [ed, if_pos k6]
    rw [e1, e2, oft_full (by omega) (by omega)]
    have e3 : max a.x (-16777216) = a.x := by omega
    have e4 : max a.y (-16777216) = a.y := by omega
    rw [e3, e4]
    have e5 : a.x + a.w - a.x = a.w := by omega
    have e6 : a.y + a.h - a.y = a.h := by omega
    rw [e5, e6]

set_option maxRecDepth 100000 in
set_option maxHeartbeats 1000000 in
theorem rbound_any (a : Rc) (ok : a.Ok) (w : World) : Calls Tryd.prog 16 #[.agg #[.int .i64 a.x, .int .i64 a.y, .int .i64 a.w, .int .i64 a.h]] w fun e w' => e = .returned (.agg #[.int .i64 (bnd a).x, .int .i64 (bnd a).y, .int .i64 (bnd a).w, .int .i64 (bnd a).h]) ∧ Below w.heap.size w w' := by
  have CE := hid (fun w => rempty_any a w)
  cases he : emp a
  · rw [he] at CE
    obtain ⟨z1, z2⟩ := sizes he
    rw [bnd_full he]
    have C1 := hid (fun w => edge_any a.x a.w ok.x ⟨z1, ok.w.2⟩ w)
    have C2 := hid (fun w => edge_any a.y a.h ok.y ⟨z2, ok.h.2⟩ w)
    have le : ∀ p s : Int, ed p s ≤ 16777216 := fun p s => by unfold ed; split <;> omega
    have l1 := le a.x a.w
    have l2 := le a.y a.h
    have CO := hid (fun w => rof_any (max a.x (-16777216)) (max a.y (-16777216)) (ed a.x a.w) (ed a.y a.h) (by omega) (by omega) w)
    clear l1 l2 le z1 z2 ok he
    go_enter Tryd.func16, Tryd.ntmps16
    go_wp2_with fail
    refine (CE.out _).mono ?_
    rintro e w1 ⟨rfl, hb1⟩
    obtain ⟨hA, hR, hw⟩ := box2 a rz hb1
    have HA := hid hA
    have HR := hid hR
    have HW := hid hw
    clear hA hR hw hb1 CE
    go_upto_region 3 with fail
    have hB := HA.out.drew
    have hR := HR.out.drew
    have hW := HW.out.drew
    refine wp_region_held_drew (S := fun x => Bx x _ _) (by kernel_rfl) hB (fun hHeld => ?_)
    have hHeld := hB
    refine wpAnyH_take (i := 0) (v := ?_) rfl (by kernel_rfl) (by kernel_rfl) (by kernel_rfl) (fun _ _ _ h => h) (Or.inl ⟨by kernel_rfl, ?hy0⟩) (by assumption) ?_
    case hy0 => (intro w hSw; obtain ⟨t0, t1, t2, t3⟩ := hSw.all; go_simp; try with_reducible rfl)
    try simp only [Act.put, List.getElem_toArray, List.getElem_cons_zero, List.setIfInBounds_toArray, List.set_cons_zero, List.set_cons_succ]
    refine wpAnyH_take (i := 1) (v := ?_) rfl (by kernel_rfl) (by kernel_rfl) (by kernel_rfl) (fun _ _ _ h => h) (Or.inl ⟨by kernel_rfl, ?hy1⟩) (by assumption) ?_
    case hy1 => (intro w hSw; obtain ⟨t0, t1, t2, t3⟩ := hSw.all; go_simp; try with_reducible rfl)
    try simp only [Act.put, List.getElem_toArray, List.getElem_cons_zero, List.getElem_cons_succ, List.setIfInBounds_toArray, List.set_cons_zero, List.set_cons_succ]
    refine wpAnyH_take (i := 2) (v := ?_) rfl (by kernel_rfl) (by kernel_rfl) (by kernel_rfl) (fun _ _ _ h => h) (Or.inl ⟨by kernel_rfl, ?hy2⟩) (by assumption) ?_
    case hy2 => (intro w hSw; obtain ⟨t0, t1, t2, t3⟩ := hSw.all; go_simp; try with_reducible rfl)
    try simp only [Act.put, List.getElem_toArray, List.getElem_cons_zero, List.getElem_cons_succ, List.setIfInBounds_toArray, List.set_cons_zero, List.set_cons_succ]
    refine wpAnyH_take (i := 3) (v := ?_) rfl (by kernel_rfl) (by kernel_rfl) (by kernel_rfl) (fun _ _ _ h => h) (Or.inl ⟨by kernel_rfl, ?hy3⟩) (by assumption) ?_
    case hy3 => (intro w hSw; obtain ⟨t0, t1, t2, t3⟩ := hSw.all; go_simp; try with_reducible rfl)
    try simp only [Act.put, List.getElem_toArray, List.getElem_cons_zero, List.getElem_cons_succ, List.setIfInBounds_toArray, List.set_cons_zero, List.set_cons_succ]
    refine wpAnyH_take (i := 4) (v := ?_) rfl (by kernel_rfl) (by kernel_rfl) (by kernel_rfl) (fun _ _ _ h => h) (Or.inl ⟨by kernel_rfl, ?hy4⟩) (by assumption) ?_
    case hy4 => (intro w hSw; obtain ⟨t0, t1, t2, t3⟩ := hSw.all; go_simp; try with_reducible rfl)
    try simp only [Act.put, List.getElem_toArray, List.getElem_cons_zero, List.getElem_cons_succ, List.setIfInBounds_toArray, List.set_cons_zero, List.set_cons_succ]
    refine wpAnyH_take (i := 5) (v := ?_) rfl (by kernel_rfl) (by kernel_rfl) (by kernel_rfl) (fun _ _ _ h => h) (Or.inl ⟨by kernel_rfl, ?hy5⟩) (by assumption) ?_
    case hy5 => (intro w hSw; obtain ⟨t0, t1, t2, t3⟩ := hSw.all; go_simp; try with_reducible rfl)
    try simp only [Act.put, List.getElem_toArray, List.getElem_cons_zero, List.getElem_cons_succ, List.setIfInBounds_toArray, List.set_cons_zero, List.set_cons_succ]
    refine wpAnyH_take (i := 6) (v := ?_) rfl (by kernel_rfl) (by kernel_rfl) (by kernel_rfl) (fun _ _ _ h => h) (Or.inl ⟨by kernel_rfl, ?hy6⟩) (by assumption) ?_
    case hy6 => (intro w hSw; obtain ⟨t0, t1, t2, t3⟩ := hSw.all; go_simp; try with_reducible rfl)
    try simp only [Act.put, List.getElem_toArray, List.getElem_cons_zero, List.getElem_cons_succ, List.setIfInBounds_toArray, List.set_cons_zero, List.set_cons_succ]
    refine wpAnyH_take (i := 7) (v := ?_) rfl (by kernel_rfl) (by kernel_rfl) (by kernel_rfl) (fun _ _ _ h => h) (Or.inl ⟨by kernel_rfl, ?hy7⟩) (by assumption) ?_
    case hy7 => (intro w hSw; obtain ⟨t0, t1, t2, t3⟩ := hSw.all; go_simp; try with_reducible rfl)
    try simp only [Act.put, List.getElem_toArray, List.getElem_cons_zero, List.getElem_cons_succ, List.setIfInBounds_toArray, List.set_cons_zero, List.set_cons_succ]
    refine wpAnyH_take (i := 8) (v := ?_) rfl (by kernel_rfl) (by kernel_rfl) (by kernel_rfl) (fun _ _ _ h => h) (Or.inl ⟨by kernel_rfl, ?hy8⟩) (by assumption) ?_
    case hy8 => (intro w hSw; obtain ⟨t0, t1, t2, t3⟩ := hSw.all; go_simp; try with_reducible rfl)
    try simp only [Act.put, List.getElem_toArray, List.getElem_cons_zero, List.getElem_cons_succ, List.setIfInBounds_toArray, List.set_cons_zero, List.set_cons_succ]
    refine wpAnyH_take (i := 9) (v := ?_) rfl (by kernel_rfl) (by kernel_rfl) (by kernel_rfl) (fun _ _ _ h => h) (Or.inl ⟨by kernel_rfl, ?hy9⟩) (by assumption) ?_
    case hy9 => (intro w hSw; obtain ⟨t0, t1, t2, t3⟩ := hSw.all; go_simp; try with_reducible rfl)
    try simp only [Act.put, List.getElem_toArray, List.getElem_cons_zero, List.getElem_cons_succ, List.setIfInBounds_toArray, List.set_cons_zero, List.set_cons_succ]
    refine wpAnyH_take (i := 11) (v := ?_) rfl (by kernel_rfl) (by kernel_rfl) (by kernel_rfl) (fun _ _ _ h => h) (Or.inl ⟨by kernel_rfl, ?hy11⟩) (by assumption) ?_
    case hy11 => (intro w hSw; obtain ⟨t0, t1, t2, t3⟩ := hSw.all; go_simp; try with_reducible rfl)
    try simp only [Act.put, List.getElem_toArray, List.getElem_cons_zero, List.getElem_cons_succ, List.setIfInBounds_toArray, List.set_cons_zero, List.set_cons_succ]
    refine wpAnyH_take (i := 12) (v := ?_) rfl (by kernel_rfl) (by kernel_rfl) (by kernel_rfl) (fun _ _ _ h => h) (Or.inl ⟨by kernel_rfl, ?hy12⟩) (by assumption) ?_
    case hy12 => (intro w hSw; obtain ⟨t0, t1, t2, t3⟩ := hSw.all; go_simp; try with_reducible rfl)
    try simp only [Act.put, List.getElem_toArray, List.getElem_cons_zero, List.getElem_cons_succ, List.setIfInBounds_toArray, List.set_cons_zero, List.set_cons_succ]
    refine wpAnyH_take (i := 13) (v := ?_) rfl (by kernel_rfl) (by kernel_rfl) (by kernel_rfl) (fun _ _ _ h => h) (Or.inl ⟨by kernel_rfl, ?hy13⟩) (by assumption) ?_
    case hy13 => (intro w hSw; obtain ⟨t0, t1, t2, t3⟩ := hSw.all; go_simp; try with_reducible rfl)
    try simp only [Act.put, List.getElem_toArray, List.getElem_cons_zero, List.getElem_cons_succ, List.setIfInBounds_toArray, List.set_cons_zero, List.set_cons_succ]
    refine wpAnyH_take (i := 14) (v := ?_) rfl (by kernel_rfl) (by kernel_rfl) (by kernel_rfl) (fun _ _ _ h => h) (Or.inl ⟨by kernel_rfl, ?hy14⟩) (by assumption) ?_
    case hy14 => (intro w hSw; obtain ⟨t0, t1, t2, t3⟩ := hSw.all; go_simp; try with_reducible rfl)
    try simp only [Act.put, List.getElem_toArray, List.getElem_cons_zero, List.getElem_cons_succ, List.setIfInBounds_toArray, List.set_cons_zero, List.set_cons_succ]
    refine wpAnyH_ready (rs := [10]) (by kernel_rfl) (by simp) ?_
    refine AllReadyH.cons rfl (fun K hK => ?_) AllReadyH.nil
    go_simp
    go_wp2_with fail
    refine (C1.out _).mono ?_
    rintro e u210 ⟨rfl, rfl⟩
    refine hK.out _ _ hHeld (fun _ => ?_)
    clear hK K
    refine wpAnyH_ready (rs := [15]) (by kernel_rfl) (by simp) ?_
    refine AllReadyH.cons rfl (fun K hK => ?_) AllReadyH.nil
    go_simp
    go_wp2_with fail
    refine (C2.out _).mono ?_
    rintro e u215 ⟨rfl, rfl⟩
    refine hK.out _ _ hHeld (fun _ => ?_)
    clear hK K
    refine wpAnyH_ready (rs := [16]) (by kernel_rfl) (by simp) ?_
    refine AllReadyH.cons rfl (fun K hK => ?_) AllReadyH.nil
    go_simp
    go_wp2_with fail
    refine (CO.out _).mono ?_
    rintro e u216 ⟨rfl, hb⟩
    replace hHeld := hHeld.on hb
    replace hR := hR.on hb
    replace hW := Below.on hW hb
    refine hK.out _ _ hHeld (fun _ => ?_)
    clear hK K hb
    obtain ⟨d0, d1, d2, d3⟩ := hR.all
    have fz := hR.fz
    refine wpAnyH_ready (rs := [17]) (by kernel_rfl) (by simp) ?_
    refine AllReadyH.cons rfl (fun K hK => ?_) AllReadyH.nil
    go_simp
    refine hK.out _ _ (hHeld.st_other (by omega) _) (fun _ => ?_)
    clear hK K
    refine wpAnyH_done (by kernel_rfl) ?_ _
    go_wp2
    refine bodyPost_ret (results_cell_row rfl _ _ (w.heap.size + 1) _ _ _ _ rfl (hR.st (oft _ _ _ _)).obj Tryd.underlying24 rfl infoR) rfl ?_
    exact ⟨rfl, below_st hW (by omega) (oft _ _ _ _)⟩
  · rw [he] at CE
    rw [bnd_emp he]
    clear he ok
    go_enter Tryd.func16, Tryd.ntmps16
    go_wp2_with fail
    refine (CE.out _).mono ?_
    rintro e w1 ⟨rfl, hb1⟩
    obtain ⟨_, hR, hw⟩ := box2 a rz hb1
    have HR := hid hR
    have HW := hid hw
    obtain ⟨d0, d1, d2, d3⟩ := hR.all
    have fz := hR.fz
    clear hR hw hb1 CE
    go_wp2
    refine bodyPost_ret (results_cell_row rfl _ _ (w.heap.size + 1) _ _ _ _ rfl (HR.out.st rz).obj Tryd.underlying24 rfl infoR) rfl ?_
    exact ⟨rfl, below_st HW.out (by omega) rz⟩


end Go.Proofs.YtmiapccngeafkaaDoor

/- Place: a number as a place. -/
namespace Go.Proofs.YtmiapccngeafkaaDoor
open Go Go.RowKit

/-- A number as a place. -/
def plc (v : Int) (n : Nat) : Nat := (v % n).toNat

theorem plc_lt (v : Int) (n : Nat) (h : 0 < n) : plc v n < n := by
  have h1 := Int.emod_nonneg v (b := (n : Int)) (by omega)
  have h2 := Int.emod_lt_of_pos v (b := (n : Int)) (by omega)
  unfold plc
  omega

theorem ret_plc {k : IntKind} {a b : Int} (h : a = b) : Ending.returned (.int k a) = .returned (.int k b) := by rw [h]

theorem place_any (v : Int) (n : Nat) (_hv : -9223372036854775808 ≤ v ∧ v ≤ 9223372036854775807) (hn : 0 < n) (hn2 : n ≤ 1152921504606846976) (w : World) :
    Calls Tryd.prog 7 #[.int .i64 v, .int .i64 n] w fun e w' => e = .returned (.int .i64 (plc v n : Nat)) ∧ w' = w := by
  have h0 : ¬ ((n : Int) = 0) := by omega
  go_enter Tryd.func7, Tryd.ntmps7
  have hb := Int.emod_nonneg v (b := (n : Int)) (by omega)
  have hb2 := Int.emod_lt_of_pos v (b := (n : Int)) (by omega)
  have HP : Hid (((plc v n : Nat) : Int) = v % n) := by simp only [Hid]; unfold plc; omega
  have HT : Hid (v.tmod n = if 0 ≤ v ∨ (n : Int) ∣ v then v % n else v % n - n) := by
    simp only [Hid]
    rw [Int.tmod_eq_emod]
    split <;> simp
  have ht : -9223372036854775808 ≤ v.tmod n + n ∧ v.tmod n + n ≤ 9223372036854775807 := by rw [HT.out]; split <;> omega
  clear hb hb2
  go_wp2
  all_goals
    go_ret
    refine ⟨ret_plc ?_, rfl⟩
    have hb := Int.emod_nonneg v (b := (n : Int)) (by omega)
    have hb2 := Int.emod_lt_of_pos v (b := (n : Int)) (by omega)
    have h1 := HT.out
    rw [HP.out]
    split at h1 <;> omega
end Go.Proofs.YtmiapccngeafkaaDoor
