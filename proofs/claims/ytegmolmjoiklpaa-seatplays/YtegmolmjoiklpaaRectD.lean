/- The contracts of the program's Check and Cover; rectangles compared. -/
import Derived.Test.YtegmolmjoiklpaaRectC
namespace Go.Proofs.Ytegmolmjoiklpaa
open Go Go.RowKit

theorem eqlR_guard (x y : Operand) (xs ys : Array Value) (w : World) : (eqGuard .eql 59 x y (.agg xs) (.agg ys)).run Try.prog w = .ok () w := run_eqGuard_agg w .eql 59 x y xs ys (by kernel_rfl)
theorem neqR_guard (x y : Operand) (xs ys : Array Value) (w : World) : (eqGuard .neq 59 x y (.agg xs) (.agg ys)).run Try.prog w = .ok () w := run_eqGuard_agg w .neq 59 x y xs ys (by kernel_rfl)

/-- Whether two rectangles are the same. -/
def rceq (a b : Rc) : Bool := a.x == b.x && (a.y == b.y && (a.w == b.w && a.h == b.h))
theorem rceq_same (a : Rc) : rceq a a = true := by simp [rceq]
theorem rceq_iff {a b : Rc} : rceq a b = true ↔ a = b := by
  cases a; cases b
  simp [rceq]

theorem equalR (a b : Rc) (w : World) : (Op.equalIn 10000 59 (.agg #[.int .i64 a.x, .int .i64 a.y, .int .i64 a.w, .int .i64 a.h]) (.agg #[.int .i64 b.x, .int .i64 b.y, .int .i64 b.w, .int .i64 b.h])).run Try.prog w = .ok (rceq a b) w := by
  have u3 := Try.underlying3
  have a3 := Try.isAgg3
  have z3 := Try.sizeOf3
  have hS : Try.prog.underlying 59 = some (.struct (Try.prog.fieldsOf 59)) := by kernel_rfl
  have hp : Try.prog.stoodInHeld 59 = false := by kernel_rfl
  rw [show (10000 : Nat) = 9999 + 1 from rfl, run_equalIn_agg w 9999 59 _ _ hS hp]
  simp only [Program.fieldsOf, Try.underlying59]
  go_simp
  unfold rceq
  by_cases h1 : a.x = b.x <;> by_cases h2 : a.y = b.y <;> by_cases h3 : a.w = b.w <;> by_cases h4 : a.h = b.h <;> simp [h1, h2, h3, h4]

theorem eqlR (a b : Rc) (w : World) : (binOp .eql 59 (.agg #[.int .i64 a.x, .int .i64 a.y, .int .i64 a.w, .int .i64 a.h]) (.agg #[.int .i64 b.x, .int .i64 b.y, .int .i64 b.w, .int .i64 b.h])).run Try.prog w = .ok (.bool (rceq a b)) w := by
  rw [run_eql_struct, equalR]
  rfl
theorem neqR (a b : Rc) (w : World) : (binOp .neq 59 (.agg #[.int .i64 a.x, .int .i64 a.y, .int .i64 a.w, .int .i64 a.h]) (.agg #[.int .i64 b.x, .int .i64 b.y, .int .i64 b.w, .int .i64 b.h])).run Try.prog w = .ok (.bool (!rceq a b)) w := by
  rw [run_neq_struct, equalR]
  rfl

/-- What may be. -/
def chk (a : Rc) : Bool := !emp a && rceq (bnd a) a

end Go.Proofs.Ytegmolmjoiklpaa
