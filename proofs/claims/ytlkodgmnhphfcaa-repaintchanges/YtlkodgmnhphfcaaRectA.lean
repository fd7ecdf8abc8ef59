/- Rectangles as four numbers; what the program's and the document's small functions answer. -/
import Derived.Test.YtlkodgmnhphfcaaLibK
import Derived.Test.YtlkodgmnhphfcaaChecked
import Derived.BigQuiet
import Derived.Laws.StructEq
import Derived.Deep.RegionHeldLaw
namespace Go.Proofs.Ytlkodgmnhphfcaa
open Go Go.RowKit

/-- A rectangle. -/
structure Rc where
  x : Int
  y : Int
  w : Int
  h : Int

/-- A number that an int can be. -/
def I64 (v : Int) : Prop := -9223372036854775808 ≤ v ∧ v ≤ 9223372036854775807

structure Rc.Ok (a : Rc) : Prop where
  x : -9223372036854775808 ≤ a.x ∧ a.x ≤ 9223372036854775807
  y : -9223372036854775808 ≤ a.y ∧ a.y ≤ 9223372036854775807
  w : -9223372036854775808 ≤ a.w ∧ a.w ≤ 9223372036854775807
  h : -9223372036854775808 ≤ a.h ∧ a.h ≤ 9223372036854775807

def rz : Rc := ⟨0, 0, 0, 0⟩

def emp (a : Rc) : Bool := decide (a.w < 1) || decide (a.h < 1)

/-- n is from at on, so many. -/
def wth (at_ size n : Int) : Bool := decide (at_ ≤ n) && decide (n - at_ < size)

/-- at + size, or the greatest int. -/
def en (at_ size : Int) : Int := if at_ + size ≤ 9223372036854775807 then at_ + size else 9223372036854775807

theorem wrapU (z : Int) : IntKind.u64.wrap z = z % 18446744073709551616 := by simp [IntKind.wrap, IntKind.signed, IntKind.bits]
theorem ret_int {k : IntKind} {a b : Int} (h : a = b) : Ending.returned (.int k a) = .returned (.int k b) := by rw [h]
theorem ret_bool {a b : Bool} (h : a = b) : Ending.returned (.bool a) = .returned (.bool b) := by rw [h]

/-- at + size, or the field's edge. -/
def ed (at_ size : Int) : Int := if at_ + size ≤ 16777216 then at_ + size else 16777216

set_option maxRecDepth 100000 in
theorem empty_any (a : Rc) (w : World) : Calls Try.prog 39 #[.agg #[.int .i64 a.x, .int .i64 a.y, .int .i64 a.w, .int .i64 a.h]] w fun e w' => e = .returned (.bool (emp a)) ∧ Below w.heap.size w w' := by
  go_enter Try.func39, Try.ntmps39
  go_wp2
  · go_ret
    exact ⟨rfl, (Below.refl _ _).alloc (Nat.le_refl _) _⟩
  · go_ret
    exact ⟨by simp [emp, *], (Below.refl _ _).alloc (Nat.le_refl _) _⟩

set_option maxRecDepth 100000 in
theorem rempty_any (a : Rc) (w : World) : Calls Try.prog 32 #[.agg #[.int .i64 a.x, .int .i64 a.y, .int .i64 a.w, .int .i64 a.h]] w fun e w' => e = .returned (.bool (emp a)) ∧ Below w.heap.size w w' := by
  go_enter Try.func32, Try.ntmps32
  go_wp2
  · go_ret
    exact ⟨rfl, (Below.refl _ _).alloc (Nat.le_refl _) _⟩
  · go_ret
    exact ⟨by simp [emp, *], (Below.refl _ _).alloc (Nat.le_refl _) _⟩

theorem wrap_sub {at_ n : Int} (ha : -9223372036854775808 ≤ at_ ∧ at_ ≤ 9223372036854775807) (hn : -9223372036854775808 ≤ n ∧ n ≤ 9223372036854775807) (h : at_ ≤ n) : IntKind.u64.wrap (IntKind.u64.wrap n - IntKind.u64.wrap at_) = n - at_ := by
  rw [wrapU, wrapU, wrapU]
  omega


set_option maxRecDepth 100000 in
theorem rwithin_any (at_ size n : Int) (ha : -9223372036854775808 ≤ at_ ∧ at_ ≤ 9223372036854775807) (hs : 1 ≤ size ∧ size ≤ 9223372036854775807) (hn : -9223372036854775808 ≤ n ∧ n ≤ 9223372036854775807) (w : World) :
    Calls Try.prog 79 #[.int .i64 n, .int .i64 at_, .int .i64 size] w fun e w' => e = .returned (.bool (wth at_ size n)) ∧ w' = w := by
  go_enter Try.func79, Try.ntmps79
  go_wp2
  · go_ret
    rename_i h
    rw [wrap_sub ha hn h]
    exact ⟨ret_bool (by simp [wth, h]), rfl⟩
  · go_ret
    rename_i h
    exact ⟨ret_bool (by simp [wth, Int.not_le.2 h]), rfl⟩

set_option maxRecDepth 100000 in
theorem end_any (at_ size : Int) (ha : -9223372036854775808 ≤ at_ ∧ at_ ≤ 9223372036854775807) (hs : 1 ≤ size ∧ size ≤ 9223372036854775807) (w : World) :
    Calls Try.prog 53 #[.int .i64 at_, .int .i64 size] w fun e w' => e = .returned (.int .i64 (en at_ size)) ∧ w' = w := by
  go_enter Try.func53, Try.ntmps53
  go_wp2
  go_ret
  exact ⟨ret_int (by unfold en; split <;> omega), rfl⟩

set_option maxRecDepth 100000 in
theorem in_any (v : Int) (w : World) :
    Calls Try.prog 35 #[.int .i64 v] w fun e w' => e = .returned (.bool (decide (-16777216 ≤ v) && decide (v ≤ 16777216))) ∧ w' = w := by
  go_enter Try.func35, Try.ntmps35
  go_wp2
  · go_ret
    rename_i h
    exact ⟨ret_bool (by simp [h]), rfl⟩
  · go_ret
    rename_i h
    exact ⟨ret_bool (by simp [Int.not_le.2 h]), rfl⟩

set_option maxRecDepth 100000 in
theorem edge_any (at_ size : Int) (ha : -9223372036854775808 ≤ at_ ∧ at_ ≤ 9223372036854775807) (hs : 1 ≤ size ∧ size ≤ 9223372036854775807) (w : World) :
    Calls Try.prog 50 #[.int .i64 at_, .int .i64 size] w fun e w' => e = .returned (.int .i64 (ed at_ size)) ∧ w' = w := by
  have HE : Hid (at_ < -16777216 → IntKind.u64.wrap (16777216 - IntKind.u64.wrap at_) = 16777216 - at_) := by
    intro h
    rw [wrapU, wrapU]
    omega
  by_cases h0 : at_ < -16777216
  · have he := HE.out h0
    have h1 : ¬ 16777216 ≤ at_ := by omega
    have h2 : ¬ 0 ≤ at_ := by omega
    have h3 : ¬ -16777216 ≤ at_ := by omega
    clear HE
    go_enter Try.func50, Try.ntmps50
    go_wp2
    all_goals
      go_ret
      refine ⟨ret_int ?_, rfl⟩
      unfold ed
      split <;> omega
  · clear HE
    go_enter Try.func50, Try.ntmps50
    go_wp2
    all_goals
      go_ret
      refine ⟨ret_int ?_, rfl⟩
      unfold ed
      split <;> omega
end Go.Proofs.Ytlkodgmnhphfcaa
