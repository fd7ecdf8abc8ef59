/- Rectangles as four numbers; what the program's and the document's small functions answer. -/
import Derived.Test.YtegmolmjoiklpaaLibK
import Derived.Test.YtegmolmjoiklpaaChecked
import Derived.BigQuiet
import Derived.Laws.StructEq
import Derived.Deep.RegionHeldLaw
namespace Go.Proofs.Ytegmolmjoiklpaa
open Go Go.RowKit

/-- A rectangle. -/
structure Rc where
  x : Int
  y : Int
  w : Int
  h : Int

/-- A number that an int can be. -/
def I64 (v : Int) : Prop := -9223372036854775808 ≤ v ∧ v ≤ 9223372036854775807

structure Rc.Ok (a : Rc) : Prop where
  x : -9223372036854775808 ≤ a.x ∧ a.x ≤ 9223372036854775807
  y : -9223372036854775808 ≤ a.y ∧ a.y ≤ 9223372036854775807
  w : -9223372036854775808 ≤ a.w ∧ a.w ≤ 9223372036854775807
  h : -9223372036854775808 ≤ a.h ∧ a.h ≤ 9223372036854775807

def rz : Rc := ⟨0, 0, 0, 0⟩

def emp (a : Rc) : Bool := decide (a.w < 1) || decide (a.h < 1)

/-- n is from at on, so many. -/
def wth (at_ size n : Int) : Bool := decide (at_ ≤ n) && decide (n - at_ < size)

/-- at + size, or the greatest int. -/
def en (at_ size : Int) : Int := if at_ + size ≤ 9223372036854775807 then at_ + size else 9223372036854775807

theorem wrapU (z : Int) : IntKind.u64.wrap z = z % 18446744073709551616 := by simp [IntKind.wrap, IntKind.signed, IntKind.bits]
theorem ret_int {k : IntKind} {a b : Int} (h : a = b) : Ending.returned (.int k a) = .returned (.int k b) := by rw [h]
theorem ret_bool {a b : Bool} (h : a = b) : Ending.returned (.bool a) = .returned (.bool b) := by rw [h]

/-- at + size, or the field's edge. -/
def ed (at_ size : Int) : Int := if at_ + size ≤ 16777216 then at_ + size else 16777216

set_option maxRecDepth 100000 in
theorem empty_any (a : Rc) (w : World) : Calls Try.prog 46 #[.agg #[.int .i64 a.x, .int .i64 a.y, .int .i64 a.w, .int .i64 a.h]] w fun e w' => e = .returned (.bool (emp a)) ∧ Below w.heap.size w w' := by
  go_enter Try.func46, Try.ntmps46
  go_wp2
  · go_ret
    exact ⟨rfl, (Below.refl _ _).alloc (Nat.le_refl _) _⟩
  · go_ret
    exact ⟨by simp [emp, *], (Below.refl _ _).alloc (Nat.le_refl _) _⟩

set_option maxRecDepth 100000 in
theorem rempty_any (a : Rc) (w : World) : Calls Try.prog 41 #[.agg #[.int .i64 a.x, .int .i64 a.y, .int .i64 a.w, .int .i64 a.h]] w fun e w' => e = .returned (.bool (emp a)) ∧ Below w.heap.size w w' := by
  go_enter Try.func41, Try.ntmps41
  go_wp2
  · go_ret
    exact ⟨rfl, (Below.refl _ _).alloc (Nat.le_refl _) _⟩
  · go_ret
    exact ⟨by simp [emp, *], (Below.refl _ _).alloc (Nat.le_refl _) _⟩

theorem wrap_sub {at_ n : Int} (ha : -9223372036854775808 ≤ at_ ∧ at_ ≤ 9223372036854775807) (hn : -9223372036854775808 ≤ n ∧ n ≤ 9223372036854775807) (h : at_ ≤ n) : IntKind.u64.wrap (IntKind.u64.wrap n - IntKind.u64.wrap at_) = n - at_ := by
  rw [wrapU, wrapU, wrapU]
  omega

set_option maxRecDepth 100000 in
theorem within_any (at_ size n : Int) (ha : -9223372036854775808 ≤ at_ ∧ at_ ≤ 9223372036854775807) (hs : 1 ≤ size ∧ size ≤ 9223372036854775807) (hn : -9223372036854775808 ≤ n ∧ n ≤ 9223372036854775807) (w : World) :
    Calls Try.prog 47 #[.int .i64 at_, .int .i64 size, .int .i64 n] w fun e w' => e = .returned (.bool (wth at_ size n)) ∧ w' = w := by
  go_enter Try.func47, Try.ntmps47
  go_wp2
  · go_ret
    rename_i h
    rw [wrap_sub ha hn h]
    exact ⟨ret_bool (by simp [wth, h]), rfl⟩
  · go_ret
    rename_i h
    exact ⟨ret_bool (by simp [wth, Int.not_le.2 h]), rfl⟩

set_option maxRecDepth 100000 in
theorem rwithin_any (at_ size n : Int) (ha : -9223372036854775808 ≤ at_ ∧ at_ ≤ 9223372036854775807) (hs : 1 ≤ size ∧ size ≤ 9223372036854775807) (hn : -9223372036854775808 ≤ n ∧ n ≤ 9223372036854775807) (w : World) :
    Calls Try.prog 42 #[.int .i64 n, .int .i64 at_, .int .i64 size] w fun e w' => e = .returned (.bool (wth at_ size n)) ∧ w' = w := by
  go_enter Try.func42, Try.ntmps42
  go_wp2
  · go_ret
    rename_i h
    rw [wrap_sub ha hn h]
    exact ⟨ret_bool (by simp [wth, h]), rfl⟩
  · go_ret
    rename_i h
    exact ⟨ret_bool (by simp [wth, Int.not_le.2 h]), rfl⟩



end Go.Proofs.Ytegmolmjoiklpaa
