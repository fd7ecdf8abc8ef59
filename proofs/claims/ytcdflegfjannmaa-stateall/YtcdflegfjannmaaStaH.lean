/- The document's Same. Written by state/mk_stah.py. -/
import Derived.Test.YtcdflegfjannmaaStaG
import Derived.Test.YtcdflegfjannmaaLibG
namespace Go.Proofs.Ytcdflegfjannmaa
open Go Go.RowKit

/-- The first j of both are the same, and A. -/
def ac (A : Bool) (l m : List (List Int)) (j : Nat) : Bool := A && leqs (l.take j) (m.take j)
theorem ac_zero (A : Bool) (l m : List (List Int)) : ac A l m 0 = A := by simp [ac, leqs]
theorem ac_end {A : Bool} {l m : List (List Int)} {n : Nat} (h : l.length = n) (h' : m.length = n) : ac A l m n = (A && leqs l m) := by
  rw [ac, List.take_of_length_le (by omega), List.take_of_length_le (by omega)]
theorem ac_succ {A : Bool} {l m : List (List Int)} {j : Nat} {x y : List Int} (hx : l[j]? = some x) (hy : m[j]? = some y) : ac A l m (j + 1) = (ac A l m j && leq x y) := by
  have h1 : j < l.length := (List.getElem?_eq_some_iff.1 hx).1
  have h2 : j < m.length := (List.getElem?_eq_some_iff.1 hy).1
  unfold ac leqs leq
  rw [take_snoc hx, take_snoc hy, Bool.and_assoc]
  congr 1
  rw [Bool.eq_iff_iff]
  simp only [decide_eq_true_eq, Bool.and_eq_true]
  constructor
  · intro h
    have := List.append_inj h (by rw [List.length_take, List.length_take]; omega)
    simpa using this
  · rintro ⟨h, rfl⟩
    rw [h]

/-- The blocks of both. -/
structure M2 (w : World) (x y : Sx) (u : World) : Prop where
  bx : Bs u w.heap.size x
  by_ : Bs u (w.heap.size + 1) y
  bel : RowKit.Below w.heap.size w u
theorem m2_new (w : World) (x y : Sx) : M2 w x y ((w.alloc (.cells #[.bool x.at_, .int .i64 x.buf, .slice x.dm.a x.dm.n x.dm.c, .slice x.fr.a x.fr.n x.fr.c, .bool x.inp, .bool x.all, .slice x.rg.a x.rg.n x.rg.c, .bool x.ord, .slice x.od.a x.od.n x.od.c, .slice x.pl.a x.pl.n x.pl.c] 26)).alloc (.cells #[.bool y.at_, .int .i64 y.buf, .slice y.dm.a y.dm.n y.dm.c, .slice y.fr.a y.fr.n y.fr.c, .bool y.inp, .bool y.all, .slice y.rg.a y.rg.n y.rg.c, .bool y.ord, .slice y.od.a y.od.n y.od.c, .slice y.pl.a y.pl.n y.pl.c] 26)) := by
  obtain ⟨h1, h2, h3⟩ := sbox2 x y (Below.refl _ ((w.alloc (.cells #[.bool x.at_, .int .i64 x.buf, .slice x.dm.a x.dm.n x.dm.c, .slice x.fr.a x.fr.n x.fr.c, .bool x.inp, .bool x.all, .slice x.rg.a x.rg.n x.rg.c, .bool x.ord, .slice x.od.a x.od.n x.od.c, .slice x.pl.a x.pl.n x.pl.c] 26)).alloc (.cells #[.bool y.at_, .int .i64 y.buf, .slice y.dm.a y.dm.n y.dm.c, .slice y.fr.a y.fr.n y.fr.c, .bool y.inp, .bool y.all, .slice y.rg.a y.rg.n y.rg.c, .bool y.ord, .slice y.od.a y.od.n y.od.c, .slice y.pl.a y.pl.n y.pl.c] 26)))
  exact ⟨h1, h2, h3⟩

/-- The operations of a region of the program, as the print shows them. -/
def opsRS1 : Array Oper := #[
  { dst := some 11, op := Op.fieldAddr 26 (Operand.tmp 2) 0, type := 0, pos := "ref.go:78", after := #[], guard := none },
  { dst := some 12, op := Op.load 4 (Operand.tmp 11), type := 4, pos := "ref.go:78", after := #[{ on := 0, ground := Ground.data }], guard := none },
  { dst := some 13, op := Op.fieldAddr 26 (Operand.tmp 3) 0, type := 0, pos := "ref.go:78", after := #[], guard := none },
  { dst := some 14, op := Op.load 4 (Operand.tmp 13), type := 4, pos := "ref.go:78", after := #[{ on := 2, ground := Ground.data }], guard := none },
  { dst := some 15, op := Op.binOp BinOp.neq 4 (Operand.tmp 12) (Operand.tmp 14) 4, type := 4, pos := "ref.go:78", after := #[{ on := 1, ground := Ground.data }, { on := 3, ground := Ground.data }], guard := none },
  { dst := some 16, op := Op.move (Operand.tmp 15), type := 4, pos := "ref.go:78", after := #[{ on := 4, ground := Ground.data }], guard := none },
  { dst := some 17, op := Op.fieldAddr 26 (Operand.tmp 2) 1, type := 0, pos := "ref.go:78", after := #[{ on := 5, ground := Ground.guard }], guard := some (5, false) },
  { dst := some 18, op := Op.load 3 (Operand.tmp 17), type := 3, pos := "ref.go:78", after := #[{ on := 6, ground := Ground.data }, { on := 5, ground := Ground.guard }], guard := some (5, false) },
  { dst := some 19, op := Op.fieldAddr 26 (Operand.tmp 3) 1, type := 0, pos := "ref.go:78", after := #[{ on := 5, ground := Ground.guard }], guard := some (5, false) },
  { dst := some 20, op := Op.load 3 (Operand.tmp 19), type := 3, pos := "ref.go:78", after := #[{ on := 8, ground := Ground.data }, { on := 5, ground := Ground.guard }], guard := some (5, false) },
  { dst := some 21, op := Op.binOp BinOp.neq 3 (Operand.tmp 18) (Operand.tmp 20) 3, type := 4, pos := "ref.go:78", after := #[{ on := 7, ground := Ground.data }, { on := 9, ground := Ground.data }, { on := 5, ground := Ground.guard }], guard := some (5, false) },
  { dst := some 22, op := Op.pick (Operand.tmp 16) (Operand.const (Value.bool true)) (Operand.tmp 21), type := 4, pos := "ref.go:78", after := #[{ on := 5, ground := Ground.data }, { on := 10, ground := Ground.data }], guard := none },
  { dst := some 23, op := Op.move (Operand.tmp 22), type := 4, pos := "ref.go:78", after := #[{ on := 11, ground := Ground.data }, { on := 5, ground := Ground.chain }], guard := none },
  { dst := some 24, op := Op.fieldAddr 26 (Operand.tmp 2) 4, type := 0, pos := "ref.go:78", after := #[{ on := 12, ground := Ground.guard }], guard := some (12, false) },
  { dst := some 25, op := Op.load 4 (Operand.tmp 24), type := 4, pos := "ref.go:78", after := #[{ on := 13, ground := Ground.data }, { on := 12, ground := Ground.guard }], guard := some (12, false) },
  { dst := some 26, op := Op.fieldAddr 26 (Operand.tmp 3) 4, type := 0, pos := "ref.go:78", after := #[{ on := 12, ground := Ground.guard }], guard := some (12, false) },
  { dst := some 27, op := Op.load 4 (Operand.tmp 26), type := 4, pos := "ref.go:78", after := #[{ on := 15, ground := Ground.data }, { on := 12, ground := Ground.guard }], guard := some (12, false) },
  { dst := some 28, op := Op.binOp BinOp.neq 4 (Operand.tmp 25) (Operand.tmp 27) 4, type := 4, pos := "ref.go:78", after := #[{ on := 14, ground := Ground.data }, { on := 16, ground := Ground.data }, { on := 12, ground := Ground.guard }], guard := some (12, false) },
  { dst := some 29, op := Op.pick (Operand.tmp 23) (Operand.const (Value.bool true)) (Operand.tmp 28), type := 4, pos := "ref.go:78", after := #[{ on := 12, ground := Ground.data }, { on := 17, ground := Ground.data }], guard := none },
  { dst := some 30, op := Op.move (Operand.tmp 29), type := 4, pos := "ref.go:78", after := #[{ on := 18, ground := Ground.data }, { on := 12, ground := Ground.chain }], guard := none },
  { dst := some 31, op := Op.fieldAddr 26 (Operand.tmp 2) 5, type := 0, pos := "ref.go:78", after := #[{ on := 19, ground := Ground.guard }], guard := some (19, false) },
  { dst := some 32, op := Op.load 4 (Operand.tmp 31), type := 4, pos := "ref.go:78", after := #[{ on := 20, ground := Ground.data }, { on := 19, ground := Ground.guard }], guard := some (19, false) },
  { dst := some 33, op := Op.fieldAddr 26 (Operand.tmp 3) 5, type := 0, pos := "ref.go:78", after := #[{ on := 19, ground := Ground.guard }], guard := some (19, false) },
  { dst := some 34, op := Op.load 4 (Operand.tmp 33), type := 4, pos := "ref.go:78", after := #[{ on := 22, ground := Ground.data }, { on := 19, ground := Ground.guard }], guard := some (19, false) },
  { dst := some 35, op := Op.binOp BinOp.neq 4 (Operand.tmp 32) (Operand.tmp 34) 4, type := 4, pos := "ref.go:78", after := #[{ on := 21, ground := Ground.data }, { on := 23, ground := Ground.data }, { on := 19, ground := Ground.guard }], guard := some (19, false) },
  { dst := some 36, op := Op.pick (Operand.tmp 30) (Operand.const (Value.bool true)) (Operand.tmp 35), type := 4, pos := "ref.go:78", after := #[{ on := 19, ground := Ground.data }, { on := 24, ground := Ground.data }], guard := none },
  { dst := some 37, op := Op.move (Operand.tmp 36), type := 4, pos := "ref.go:78", after := #[{ on := 25, ground := Ground.data }, { on := 19, ground := Ground.chain }], guard := none },
  { dst := some 38, op := Op.fieldAddr 26 (Operand.tmp 2) 7, type := 0, pos := "ref.go:78", after := #[{ on := 26, ground := Ground.guard }], guard := some (26, false) },
  { dst := some 39, op := Op.load 4 (Operand.tmp 38), type := 4, pos := "ref.go:78", after := #[{ on := 27, ground := Ground.data }, { on := 26, ground := Ground.guard }], guard := some (26, false) },
  { dst := some 40, op := Op.fieldAddr 26 (Operand.tmp 3) 7, type := 0, pos := "ref.go:78", after := #[{ on := 26, ground := Ground.guard }], guard := some (26, false) },
  { dst := some 41, op := Op.load 4 (Operand.tmp 40), type := 4, pos := "ref.go:78", after := #[{ on := 29, ground := Ground.data }, { on := 26, ground := Ground.guard }], guard := some (26, false) },
  { dst := some 42, op := Op.binOp BinOp.neq 4 (Operand.tmp 39) (Operand.tmp 41) 4, type := 4, pos := "ref.go:78", after := #[{ on := 28, ground := Ground.data }, { on := 30, ground := Ground.data }, { on := 26, ground := Ground.guard }], guard := some (26, false) },
  { dst := some 43, op := Op.pick (Operand.tmp 37) (Operand.const (Value.bool true)) (Operand.tmp 42), type := 4, pos := "ref.go:78", after := #[{ on := 26, ground := Ground.data }, { on := 31, ground := Ground.data }], guard := none },
  { dst := some 44, op := Op.move (Operand.tmp 43), type := 4, pos := "ref.go:78", after := #[{ on := 32, ground := Ground.data }, { on := 26, ground := Ground.chain }], guard := none },
  { dst := some 45, op := Op.fieldAddr 26 (Operand.tmp 2) 2, type := 0, pos := "ref.go:78", after := #[{ on := 33, ground := Ground.guard }], guard := some (33, false) },
  { dst := some 46, op := Op.load 22 (Operand.tmp 45), type := 22, pos := "ref.go:78", after := #[{ on := 34, ground := Ground.data }, { on := 33, ground := Ground.guard }], guard := some (33, false) },
  { dst := some 47, op := Op.call { callee := Callee.builtin Builtin.len, args := #[Operand.tmp 46], argTypes := #[22] }, type := 3, pos := "ref.go:78", after := #[{ on := 35, ground := Ground.data }, { on := 33, ground := Ground.guard }], guard := some (33, false) },
  { dst := some 48, op := Op.fieldAddr 26 (Operand.tmp 3) 2, type := 0, pos := "ref.go:78", after := #[{ on := 33, ground := Ground.guard }], guard := some (33, false) },
  { dst := some 49, op := Op.load 22 (Operand.tmp 48), type := 22, pos := "ref.go:78", after := #[{ on := 37, ground := Ground.data }, { on := 33, ground := Ground.guard }], guard := some (33, false) },
  { dst := some 50, op := Op.call { callee := Callee.builtin Builtin.len, args := #[Operand.tmp 49], argTypes := #[22] }, type := 3, pos := "ref.go:78", after := #[{ on := 38, ground := Ground.data }, { on := 33, ground := Ground.guard }], guard := some (33, false) },
  { dst := some 51, op := Op.binOp BinOp.neq 3 (Operand.tmp 47) (Operand.tmp 50) 3, type := 4, pos := "ref.go:78", after := #[{ on := 36, ground := Ground.data }, { on := 39, ground := Ground.data }, { on := 33, ground := Ground.guard }], guard := some (33, false) },
  { dst := some 52, op := Op.pick (Operand.tmp 44) (Operand.const (Value.bool true)) (Operand.tmp 51), type := 4, pos := "ref.go:78", after := #[{ on := 33, ground := Ground.data }, { on := 40, ground := Ground.data }], guard := none },
  { dst := some 53, op := Op.move (Operand.tmp 52), type := 4, pos := "ref.go:78", after := #[{ on := 41, ground := Ground.data }, { on := 33, ground := Ground.chain }], guard := none },
  { dst := some 54, op := Op.fieldAddr 26 (Operand.tmp 2) 3, type := 0, pos := "ref.go:78", after := #[{ on := 42, ground := Ground.guard }], guard := some (42, false) },
  { dst := some 55, op := Op.load 23 (Operand.tmp 54), type := 23, pos := "ref.go:78", after := #[{ on := 43, ground := Ground.data }, { on := 42, ground := Ground.guard }], guard := some (42, false) },
  { dst := some 56, op := Op.call { callee := Callee.builtin Builtin.len, args := #[Operand.tmp 55], argTypes := #[23] }, type := 3, pos := "ref.go:78", after := #[{ on := 44, ground := Ground.data }, { on := 42, ground := Ground.guard }], guard := some (42, false) },
  { dst := some 57, op := Op.fieldAddr 26 (Operand.tmp 3) 3, type := 0, pos := "ref.go:78", after := #[{ on := 42, ground := Ground.guard }], guard := some (42, false) },
  { dst := some 58, op := Op.load 23 (Operand.tmp 57), type := 23, pos := "ref.go:78", after := #[{ on := 46, ground := Ground.data }, { on := 42, ground := Ground.guard }], guard := some (42, false) },
  { dst := some 59, op := Op.call { callee := Callee.builtin Builtin.len, args := #[Operand.tmp 58], argTypes := #[23] }, type := 3, pos := "ref.go:78", after := #[{ on := 47, ground := Ground.data }, { on := 42, ground := Ground.guard }], guard := some (42, false) },
  { dst := some 60, op := Op.binOp BinOp.neq 3 (Operand.tmp 56) (Operand.tmp 59) 3, type := 4, pos := "ref.go:78", after := #[{ on := 45, ground := Ground.data }, { on := 48, ground := Ground.data }, { on := 42, ground := Ground.guard }], guard := some (42, false) },
  { dst := some 61, op := Op.pick (Operand.tmp 53) (Operand.const (Value.bool true)) (Operand.tmp 60), type := 4, pos := "ref.go:78", after := #[{ on := 42, ground := Ground.data }, { on := 49, ground := Ground.data }], guard := none },
  { dst := some 62, op := Op.move (Operand.tmp 61), type := 4, pos := "ref.go:78", after := #[{ on := 50, ground := Ground.data }, { on := 42, ground := Ground.chain }], guard := none },
  { dst := some 63, op := Op.fieldAddr 26 (Operand.tmp 2) 6, type := 0, pos := "ref.go:78", after := #[{ on := 51, ground := Ground.guard }], guard := some (51, false) },
  { dst := some 64, op := Op.load 22 (Operand.tmp 63), type := 22, pos := "ref.go:78", after := #[{ on := 52, ground := Ground.data }, { on := 51, ground := Ground.guard }], guard := some (51, false) },
  { dst := some 65, op := Op.call { callee := Callee.builtin Builtin.len, args := #[Operand.tmp 64], argTypes := #[22] }, type := 3, pos := "ref.go:78", after := #[{ on := 53, ground := Ground.data }, { on := 51, ground := Ground.guard }], guard := some (51, false) },
  { dst := some 66, op := Op.fieldAddr 26 (Operand.tmp 3) 6, type := 0, pos := "ref.go:78", after := #[{ on := 51, ground := Ground.guard }], guard := some (51, false) },
  { dst := some 67, op := Op.load 22 (Operand.tmp 66), type := 22, pos := "ref.go:78", after := #[{ on := 55, ground := Ground.data }, { on := 51, ground := Ground.guard }], guard := some (51, false) },
  { dst := some 68, op := Op.call { callee := Callee.builtin Builtin.len, args := #[Operand.tmp 67], argTypes := #[22] }, type := 3, pos := "ref.go:78", after := #[{ on := 56, ground := Ground.data }, { on := 51, ground := Ground.guard }], guard := some (51, false) },
  { dst := some 69, op := Op.binOp BinOp.neq 3 (Operand.tmp 65) (Operand.tmp 68) 3, type := 4, pos := "ref.go:78", after := #[{ on := 54, ground := Ground.data }, { on := 57, ground := Ground.data }, { on := 51, ground := Ground.guard }], guard := some (51, false) },
  { dst := some 70, op := Op.pick (Operand.tmp 62) (Operand.const (Value.bool true)) (Operand.tmp 69), type := 4, pos := "ref.go:78", after := #[{ on := 51, ground := Ground.data }, { on := 58, ground := Ground.data }], guard := none },
  { dst := some 71, op := Op.move (Operand.tmp 70), type := 4, pos := "ref.go:78", after := #[{ on := 59, ground := Ground.data }, { on := 51, ground := Ground.chain }], guard := none },
  { dst := some 72, op := Op.fieldAddr 26 (Operand.tmp 2) 8, type := 0, pos := "ref.go:78", after := #[{ on := 60, ground := Ground.guard }], guard := some (60, false) },
  { dst := some 73, op := Op.load 23 (Operand.tmp 72), type := 23, pos := "ref.go:78", after := #[{ on := 61, ground := Ground.data }, { on := 60, ground := Ground.guard }], guard := some (60, false) },
  { dst := some 74, op := Op.call { callee := Callee.builtin Builtin.len, args := #[Operand.tmp 73], argTypes := #[23] }, type := 3, pos := "ref.go:78", after := #[{ on := 62, ground := Ground.data }, { on := 60, ground := Ground.guard }], guard := some (60, false) },
  { dst := some 75, op := Op.fieldAddr 26 (Operand.tmp 3) 8, type := 0, pos := "ref.go:78", after := #[{ on := 60, ground := Ground.guard }], guard := some (60, false) },
  { dst := some 76, op := Op.load 23 (Operand.tmp 75), type := 23, pos := "ref.go:78", after := #[{ on := 64, ground := Ground.data }, { on := 60, ground := Ground.guard }], guard := some (60, false) },
  { dst := some 77, op := Op.call { callee := Callee.builtin Builtin.len, args := #[Operand.tmp 76], argTypes := #[23] }, type := 3, pos := "ref.go:78", after := #[{ on := 65, ground := Ground.data }, { on := 60, ground := Ground.guard }], guard := some (60, false) },
  { dst := some 78, op := Op.binOp BinOp.neq 3 (Operand.tmp 74) (Operand.tmp 77) 3, type := 4, pos := "ref.go:78", after := #[{ on := 63, ground := Ground.data }, { on := 66, ground := Ground.data }, { on := 60, ground := Ground.guard }], guard := some (60, false) },
  { dst := some 79, op := Op.pick (Operand.tmp 71) (Operand.const (Value.bool true)) (Operand.tmp 78), type := 4, pos := "ref.go:78", after := #[{ on := 60, ground := Ground.data }, { on := 67, ground := Ground.data }], guard := none },
  { dst := some 80, op := Op.move (Operand.tmp 79), type := 4, pos := "ref.go:78", after := #[{ on := 68, ground := Ground.data }, { on := 60, ground := Ground.chain }], guard := none },
  { dst := some 81, op := Op.fieldAddr 26 (Operand.tmp 2) 9, type := 0, pos := "ref.go:78", after := #[{ on := 69, ground := Ground.guard }], guard := some (69, false) },
  { dst := some 82, op := Op.load 24 (Operand.tmp 81), type := 24, pos := "ref.go:78", after := #[{ on := 70, ground := Ground.data }, { on := 69, ground := Ground.guard }], guard := some (69, false) },
  { dst := some 83, op := Op.call { callee := Callee.builtin Builtin.len, args := #[Operand.tmp 82], argTypes := #[24] }, type := 3, pos := "ref.go:78", after := #[{ on := 71, ground := Ground.data }, { on := 69, ground := Ground.guard }], guard := some (69, false) },
  { dst := some 84, op := Op.fieldAddr 26 (Operand.tmp 3) 9, type := 0, pos := "ref.go:78", after := #[{ on := 69, ground := Ground.guard }], guard := some (69, false) },
  { dst := some 85, op := Op.load 24 (Operand.tmp 84), type := 24, pos := "ref.go:78", after := #[{ on := 73, ground := Ground.data }, { on := 69, ground := Ground.guard }], guard := some (69, false) },
  { dst := some 86, op := Op.call { callee := Callee.builtin Builtin.len, args := #[Operand.tmp 85], argTypes := #[24] }, type := 3, pos := "ref.go:78", after := #[{ on := 74, ground := Ground.data }, { on := 69, ground := Ground.guard }], guard := some (69, false) },
  { dst := some 87, op := Op.binOp BinOp.neq 3 (Operand.tmp 83) (Operand.tmp 86) 3, type := 4, pos := "ref.go:78", after := #[{ on := 72, ground := Ground.data }, { on := 75, ground := Ground.data }, { on := 69, ground := Ground.guard }], guard := some (69, false) },
  { dst := some 88, op := Op.pick (Operand.tmp 80) (Operand.const (Value.bool true)) (Operand.tmp 87), type := 4, pos := "ref.go:78", after := #[{ on := 69, ground := Ground.data }, { on := 76, ground := Ground.data }], guard := none }]

set_option maxRecDepth 100000 in
set_option maxHeartbeats 20000000 in
theorem rsame_any (x y : Sx) (w : World) (okx : x.Ok w) (oky : y.Ok w) : Calls Try.prog 12 #[.agg #[.bool x.at_, .int .i64 x.buf, .slice x.dm.a x.dm.n x.dm.c, .slice x.fr.a x.fr.n x.fr.c, .bool x.inp, .bool x.all, .slice x.rg.a x.rg.n x.rg.c, .bool x.ord, .slice x.od.a x.od.n x.od.c, .slice x.pl.a x.pl.n x.pl.c], .agg #[.bool y.at_, .int .i64 y.buf, .slice y.dm.a y.dm.n y.dm.c, .slice y.fr.a y.fr.n y.fr.c, .bool y.inp, .bool y.all, .slice y.rg.a y.rg.n y.rg.c, .bool y.ord, .slice y.od.a y.od.n y.od.c, .slice y.pl.a y.pl.n y.pl.c]] w fun e w' => e = .returned (.bool (sm x.q y.q)) ∧ Below w.heap.size w w' := by
  have Ef := hid (smx_eq x y)
  have HX := hid okx
  have HY := hid oky
  have g4 := eqlM4_guard
  have q4 := eqlM4
  have g3 := eqlM3_guard
  have q3 := eqlM3
  have sdm := okx.dm.small.1
  have tdm := oky.dm.small.1
  have Ddm : Hid ((((x.dm.n : Int) != y.dm.n) = true) → leqs x.dm.l y.dm.l = false) := fun h => leqs_len (by rw [okx.dm.len, oky.dm.len]; intro e; rw [e] at h; simp at h)
  have sfr := okx.fr.small.1
  have tfr := oky.fr.small.1
  have Dfr : Hid ((((x.fr.n : Int) != y.fr.n) = true) → leqs x.fr.l y.fr.l = false) := fun h => leqs_len (by rw [okx.fr.len, oky.fr.len]; intro e; rw [e] at h; simp at h)
  have srg := okx.rg.small.1
  have trg := oky.rg.small.1
  have Drg : Hid ((((x.rg.n : Int) != y.rg.n) = true) → leqs x.rg.l y.rg.l = false) := fun h => leqs_len (by rw [okx.rg.len, oky.rg.len]; intro e; rw [e] at h; simp at h)
  have sod := okx.od.small.1
  have tod := oky.od.small.1
  have Dod : Hid ((((x.od.n : Int) != y.od.n) = true) → leqs x.od.l y.od.l = false) := fun h => leqs_len (by rw [okx.od.len, oky.od.len]; intro e; rw [e] at h; simp at h)
  have spl := okx.pl.small.1
  have tpl := oky.pl.small.1
  have Dpl : Hid ((((x.pl.n : Int) != y.pl.n) = true) → leqs x.pl.l y.pl.l = false) := fun h => leqs_len (by rw [okx.pl.len, oky.pl.len]; intro e; rw [e] at h; simp at h)
  obtain ⟨d0, hd0⟩ : ∃ d : Bool, (x.at_ != y.at_) = d := ⟨_, rfl⟩
  obtain ⟨d1, hd1⟩ : ∃ d : Bool, (x.buf != y.buf) = d := ⟨_, rfl⟩
  obtain ⟨d2, hd2⟩ : ∃ d : Bool, (x.inp != y.inp) = d := ⟨_, rfl⟩
  obtain ⟨d3, hd3⟩ : ∃ d : Bool, (x.all != y.all) = d := ⟨_, rfl⟩
  obtain ⟨d4, hd4⟩ : ∃ d : Bool, (x.ord != y.ord) = d := ⟨_, rfl⟩
  obtain ⟨d5, hd5⟩ : ∃ d : Bool, ((x.dm.n : Int) != y.dm.n) = d := ⟨_, rfl⟩
  obtain ⟨d6, hd6⟩ : ∃ d : Bool, ((x.fr.n : Int) != y.fr.n) = d := ⟨_, rfl⟩
  obtain ⟨d7, hd7⟩ : ∃ d : Bool, ((x.rg.n : Int) != y.rg.n) = d := ⟨_, rfl⟩
  obtain ⟨d8, hd8⟩ : ∃ d : Bool, ((x.od.n : Int) != y.od.n) = d := ⟨_, rfl⟩
  obtain ⟨d9, hd9⟩ : ∃ d : Bool, ((x.pl.n : Int) != y.pl.n) = d := ⟨_, rfl⟩
  obtain ⟨c1, hc1⟩ : ∃ c : Bool, (d0 || d1) = c := ⟨_, rfl⟩
  obtain ⟨c2, hc2⟩ : ∃ c : Bool, (c1 || d2) = c := ⟨_, rfl⟩
  obtain ⟨c3, hc3⟩ : ∃ c : Bool, (c2 || d3) = c := ⟨_, rfl⟩
  obtain ⟨c4, hc4⟩ : ∃ c : Bool, (c3 || d4) = c := ⟨_, rfl⟩
  obtain ⟨c5, hc5⟩ : ∃ c : Bool, (c4 || d5) = c := ⟨_, rfl⟩
  obtain ⟨c6, hc6⟩ : ∃ c : Bool, (c5 || d6) = c := ⟨_, rfl⟩
  obtain ⟨c7, hc7⟩ : ∃ c : Bool, (c6 || d7) = c := ⟨_, rfl⟩
  obtain ⟨c8, hc8⟩ : ∃ c : Bool, (c7 || d8) = c := ⟨_, rfl⟩
  obtain ⟨c9, hc9⟩ : ∃ c : Bool, (c8 || d9) = c := ⟨_, rfl⟩
  have HMM := hid (m2_new w x y)
  clear okx oky
  go_enter Try.func12, Try.ntmps12
  go_upto_region 1 with fail
  go_cut [0, 1, 88] (fun _ _ v wx => v = .bool c9 ∧ M2 w x y wx)
  case first =>
    have hHeld := HMM.out
    refine swap_ops (ops' := opsRS1) (by kernel_rfl) ?_
    refine wp_region_seq (l := [0, 1, 2, 3, 4, 5, 6, 7, 8, 9, 10, 11, 12, 13, 14, 15, 16, 17, 18, 19, 20, 21, 22, 23, 24, 25, 26, 27, 28, 29, 30, 31, 32, 33, 34, 35, 36, 37, 38, 39, 40, 41, 42, 43, 44, 45, 46, 47, 48, 49, 50, 51, 52, 53, 54, 55, 56, 57, 58, 59, 60, 61, 62, 63, 64, 65, 66, 67, 68, 69, 70, 71, 72, 73, 74, 75, 76, 77]) (by kernel_rfl) ?_
    refine wpOps_val (S := M2 w x y) (i := 0) (v := ?_) (oi := { dst := some 11, op := Op.fieldAddr 26 (Operand.tmp 2) 0, type := 0, pos := "ref.go:78", after := #[], guard := none }) (by kernel_rfl) (Or.inl ⟨by kernel_rfl, ?hy0⟩) (by assumption) ?_
    case hy0 => (intro w hSw; (try dsimp only at hSw); obtain ⟨xa, xb, xc, xd, xe, xf, xg, xh, xi, xj⟩ := hSw.bx.all; obtain ⟨ya, yb, yc, yd, ye, yf, yg, yh, yi, yj⟩ := hSw.by_.all; go_simp; try with_reducible rfl)
    try simp only [Act.put, List.setIfInBounds_toArray, List.set_cons_zero, List.set_cons_succ]
    refine wpOps_val (S := M2 w x y) (i := 1) (v := ?_) (oi := { dst := some 12, op := Op.load 4 (Operand.tmp 11), type := 4, pos := "ref.go:78", after := #[{ on := 0, ground := Ground.data }], guard := none }) (by kernel_rfl) (Or.inl ⟨by kernel_rfl, ?hy1⟩) (by assumption) ?_
    case hy1 => (intro w hSw; (try dsimp only at hSw); obtain ⟨xa, xb, xc, xd, xe, xf, xg, xh, xi, xj⟩ := hSw.bx.all; obtain ⟨ya, yb, yc, yd, ye, yf, yg, yh, yi, yj⟩ := hSw.by_.all; go_simp; try with_reducible rfl)
    try simp only [Act.put, List.setIfInBounds_toArray, List.set_cons_zero, List.set_cons_succ]
    refine wpOps_val (S := M2 w x y) (i := 2) (v := ?_) (oi := { dst := some 13, op := Op.fieldAddr 26 (Operand.tmp 3) 0, type := 0, pos := "ref.go:78", after := #[], guard := none }) (by kernel_rfl) (Or.inl ⟨by kernel_rfl, ?hy2⟩) (by assumption) ?_
    case hy2 => (intro w hSw; (try dsimp only at hSw); obtain ⟨xa, xb, xc, xd, xe, xf, xg, xh, xi, xj⟩ := hSw.bx.all; obtain ⟨ya, yb, yc, yd, ye, yf, yg, yh, yi, yj⟩ := hSw.by_.all; go_simp; try with_reducible rfl)
    try simp only [Act.put, List.setIfInBounds_toArray, List.set_cons_zero, List.set_cons_succ]
    refine wpOps_val (S := M2 w x y) (i := 3) (v := ?_) (oi := { dst := some 14, op := Op.load 4 (Operand.tmp 13), type := 4, pos := "ref.go:78", after := #[{ on := 2, ground := Ground.data }], guard := none }) (by kernel_rfl) (Or.inl ⟨by kernel_rfl, ?hy3⟩) (by assumption) ?_
    case hy3 => (intro w hSw; (try dsimp only at hSw); obtain ⟨xa, xb, xc, xd, xe, xf, xg, xh, xi, xj⟩ := hSw.bx.all; obtain ⟨ya, yb, yc, yd, ye, yf, yg, yh, yi, yj⟩ := hSw.by_.all; go_simp; try with_reducible rfl)
    try simp only [Act.put, List.setIfInBounds_toArray, List.set_cons_zero, List.set_cons_succ]
    refine wpOps_val (S := M2 w x y) (i := 4) (v := .bool d0) (oi := { dst := some 15, op := Op.binOp BinOp.neq 4 (Operand.tmp 12) (Operand.tmp 14) 4, type := 4, pos := "ref.go:78", after := #[{ on := 1, ground := Ground.data }, { on := 3, ground := Ground.data }], guard := none }) (by kernel_rfl) ?hy4 (by assumption) ?_
    case hy4 => (exact Or.inl ⟨by kernel_rfl, fun w hSw => by (try dsimp only at hSw); go_simp; (rw [← hd0]; cases x.at_ <;> cases y.at_ <;> rfl)⟩)
    try simp only [Act.put, List.setIfInBounds_toArray, List.set_cons_zero, List.set_cons_succ]
    refine wpOps_val (S := M2 w x y) (i := 5) (v := ?_) (oi := { dst := some 16, op := Op.move (Operand.tmp 15), type := 4, pos := "ref.go:78", after := #[{ on := 4, ground := Ground.data }], guard := none }) (by kernel_rfl) (Or.inl ⟨by kernel_rfl, ?hy5⟩) (by assumption) ?_
    case hy5 => (intro w hSw; (try dsimp only at hSw); obtain ⟨xa, xb, xc, xd, xe, xf, xg, xh, xi, xj⟩ := hSw.bx.all; obtain ⟨ya, yb, yc, yd, ye, yf, yg, yh, yi, yj⟩ := hSw.by_.all; go_simp; try with_reducible rfl)
    try simp only [Act.put, List.setIfInBounds_toArray, List.set_cons_zero, List.set_cons_succ]
    refine wpOps_val (S := M2 w x y) (i := 6) (v := bif d0 then undef else .pointer (some ⟨w.heap.size, 1, none⟩)) (oi := { dst := some 17, op := Op.fieldAddr 26 (Operand.tmp 2) 1, type := 0, pos := "ref.go:78", after := #[{ on := 5, ground := Ground.guard }], guard := some (5, false) }) (by kernel_rfl) ?hy6 (by assumption) ?_
    case hy6 => (cases d0; (exact Or.inl ⟨by kernel_rfl, fun w hSw => by (try dsimp only at hSw); go_simp⟩); exact Or.inr ⟨by kernel_rfl, rfl⟩)
    try simp only [Act.put, List.setIfInBounds_toArray, List.set_cons_zero, List.set_cons_succ]
    refine wpOps_val (S := M2 w x y) (i := 7) (v := bif d0 then undef else .int .i64 x.buf) (oi := { dst := some 18, op := Op.load 3 (Operand.tmp 17), type := 3, pos := "ref.go:78", after := #[{ on := 6, ground := Ground.data }, { on := 5, ground := Ground.guard }], guard := some (5, false) }) (by kernel_rfl) ?hy7 (by assumption) ?_
    case hy7 => (cases d0; (exact Or.inl ⟨by kernel_rfl, fun w hSw => by (try dsimp only at hSw); obtain ⟨xa, xb, xc, xd, xe, xf, xg, xh, xi, xj⟩ := hSw.bx.all; obtain ⟨ya, yb, yc, yd, ye, yf, yg, yh, yi, yj⟩ := hSw.by_.all; go_simp⟩); exact Or.inr ⟨by kernel_rfl, rfl⟩)
    try simp only [Act.put, List.setIfInBounds_toArray, List.set_cons_zero, List.set_cons_succ]
    refine wpOps_val (S := M2 w x y) (i := 8) (v := bif d0 then undef else .pointer (some ⟨w.heap.size + 1, 1, none⟩)) (oi := { dst := some 19, op := Op.fieldAddr 26 (Operand.tmp 3) 1, type := 0, pos := "ref.go:78", after := #[{ on := 5, ground := Ground.guard }], guard := some (5, false) }) (by kernel_rfl) ?hy8 (by assumption) ?_
    case hy8 => (cases d0; (exact Or.inl ⟨by kernel_rfl, fun w hSw => by (try dsimp only at hSw); go_simp⟩); exact Or.inr ⟨by kernel_rfl, rfl⟩)
    try simp only [Act.put, List.setIfInBounds_toArray, List.set_cons_zero, List.set_cons_succ]
    refine wpOps_val (S := M2 w x y) (i := 9) (v := bif d0 then undef else .int .i64 y.buf) (oi := { dst := some 20, op := Op.load 3 (Operand.tmp 19), type := 3, pos := "ref.go:78", after := #[{ on := 8, ground := Ground.data }, { on := 5, ground := Ground.guard }], guard := some (5, false) }) (by kernel_rfl) ?hy9 (by assumption) ?_
    case hy9 => (cases d0; (exact Or.inl ⟨by kernel_rfl, fun w hSw => by (try dsimp only at hSw); obtain ⟨xa, xb, xc, xd, xe, xf, xg, xh, xi, xj⟩ := hSw.bx.all; obtain ⟨ya, yb, yc, yd, ye, yf, yg, yh, yi, yj⟩ := hSw.by_.all; go_simp⟩); exact Or.inr ⟨by kernel_rfl, rfl⟩)
    try simp only [Act.put, List.setIfInBounds_toArray, List.set_cons_zero, List.set_cons_succ]
    refine wpOps_val (S := M2 w x y) (i := 10) (v := bif d0 then undef else .bool d1) (oi := { dst := some 21, op := Op.binOp BinOp.neq 3 (Operand.tmp 18) (Operand.tmp 20) 3, type := 4, pos := "ref.go:78", after := #[{ on := 7, ground := Ground.data }, { on := 9, ground := Ground.data }, { on := 5, ground := Ground.guard }], guard := some (5, false) }) (by kernel_rfl) ?hy10 (by assumption) ?_
    case hy10 => (cases d0; (exact Or.inl ⟨by kernel_rfl, fun w hSw => by (try dsimp only at hSw); go_simp⟩); exact Or.inr ⟨by kernel_rfl, rfl⟩)
    try simp only [Act.put, List.setIfInBounds_toArray, List.set_cons_zero, List.set_cons_succ]
    refine wpOps_val (S := M2 w x y) (i := 11) (v := .bool c1) (oi := { dst := some 22, op := Op.pick (Operand.tmp 16) (Operand.const (Value.bool true)) (Operand.tmp 21), type := 4, pos := "ref.go:78", after := #[{ on := 5, ground := Ground.data }, { on := 10, ground := Ground.data }], guard := none }) (by kernel_rfl) ?hy11 (by assumption) ?_
    case hy11 => (subst hc1; cases d0 <;> exact Or.inl ⟨by kernel_rfl, fun w hSw => by (try dsimp only at hSw); go_simp⟩)
    try simp only [Act.put, List.setIfInBounds_toArray, List.set_cons_zero, List.set_cons_succ]
    refine wpOps_val (S := M2 w x y) (i := 12) (v := ?_) (oi := { dst := some 23, op := Op.move (Operand.tmp 22), type := 4, pos := "ref.go:78", after := #[{ on := 11, ground := Ground.data }, { on := 5, ground := Ground.chain }], guard := none }) (by kernel_rfl) (Or.inl ⟨by kernel_rfl, ?hy12⟩) (by assumption) ?_
    case hy12 => (intro w hSw; (try dsimp only at hSw); obtain ⟨xa, xb, xc, xd, xe, xf, xg, xh, xi, xj⟩ := hSw.bx.all; obtain ⟨ya, yb, yc, yd, ye, yf, yg, yh, yi, yj⟩ := hSw.by_.all; go_simp; try with_reducible rfl)
    try simp only [Act.put, List.setIfInBounds_toArray, List.set_cons_zero, List.set_cons_succ]
    refine wpOps_val (S := M2 w x y) (i := 13) (v := bif c1 then undef else .pointer (some ⟨w.heap.size, 4, none⟩)) (oi := { dst := some 24, op := Op.fieldAddr 26 (Operand.tmp 2) 4, type := 0, pos := "ref.go:78", after := #[{ on := 12, ground := Ground.guard }], guard := some (12, false) }) (by kernel_rfl) ?hy13 (by assumption) ?_
    case hy13 => (cases c1; (exact Or.inl ⟨by kernel_rfl, fun w hSw => by (try dsimp only at hSw); go_simp⟩); exact Or.inr ⟨by kernel_rfl, rfl⟩)
    try simp only [Act.put, List.setIfInBounds_toArray, List.set_cons_zero, List.set_cons_succ]
    refine wpOps_val (S := M2 w x y) (i := 14) (v := bif c1 then undef else .bool x.inp) (oi := { dst := some 25, op := Op.load 4 (Operand.tmp 24), type := 4, pos := "ref.go:78", after := #[{ on := 13, ground := Ground.data }, { on := 12, ground := Ground.guard }], guard := some (12, false) }) (by kernel_rfl) ?hy14 (by assumption) ?_
    case hy14 => (cases c1; (exact Or.inl ⟨by kernel_rfl, fun w hSw => by (try dsimp only at hSw); obtain ⟨xa, xb, xc, xd, xe, xf, xg, xh, xi, xj⟩ := hSw.bx.all; obtain ⟨ya, yb, yc, yd, ye, yf, yg, yh, yi, yj⟩ := hSw.by_.all; go_simp⟩); exact Or.inr ⟨by kernel_rfl, rfl⟩)
    try simp only [Act.put, List.setIfInBounds_toArray, List.set_cons_zero, List.set_cons_succ]
    refine wpOps_val (S := M2 w x y) (i := 15) (v := bif c1 then undef else .pointer (some ⟨w.heap.size + 1, 4, none⟩)) (oi := { dst := some 26, op := Op.fieldAddr 26 (Operand.tmp 3) 4, type := 0, pos := "ref.go:78", after := #[{ on := 12, ground := Ground.guard }], guard := some (12, false) }) (by kernel_rfl) ?hy15 (by assumption) ?_
    case hy15 => (cases c1; (exact Or.inl ⟨by kernel_rfl, fun w hSw => by (try dsimp only at hSw); go_simp⟩); exact Or.inr ⟨by kernel_rfl, rfl⟩)
    try simp only [Act.put, List.setIfInBounds_toArray, List.set_cons_zero, List.set_cons_succ]
    refine wpOps_val (S := M2 w x y) (i := 16) (v := bif c1 then undef else .bool y.inp) (oi := { dst := some 27, op := Op.load 4 (Operand.tmp 26), type := 4, pos := "ref.go:78", after := #[{ on := 15, ground := Ground.data }, { on := 12, ground := Ground.guard }], guard := some (12, false) }) (by kernel_rfl) ?hy16 (by assumption) ?_
    case hy16 => (cases c1; (exact Or.inl ⟨by kernel_rfl, fun w hSw => by (try dsimp only at hSw); obtain ⟨xa, xb, xc, xd, xe, xf, xg, xh, xi, xj⟩ := hSw.bx.all; obtain ⟨ya, yb, yc, yd, ye, yf, yg, yh, yi, yj⟩ := hSw.by_.all; go_simp⟩); exact Or.inr ⟨by kernel_rfl, rfl⟩)
    try simp only [Act.put, List.setIfInBounds_toArray, List.set_cons_zero, List.set_cons_succ]
    refine wpOps_val (S := M2 w x y) (i := 17) (v := bif c1 then undef else .bool d2) (oi := { dst := some 28, op := Op.binOp BinOp.neq 4 (Operand.tmp 25) (Operand.tmp 27) 4, type := 4, pos := "ref.go:78", after := #[{ on := 14, ground := Ground.data }, { on := 16, ground := Ground.data }, { on := 12, ground := Ground.guard }], guard := some (12, false) }) (by kernel_rfl) ?hy17 (by assumption) ?_
    case hy17 => (cases c1; (exact Or.inl ⟨by kernel_rfl, fun w hSw => by (try dsimp only at hSw); go_simp; (rw [← hd2]; cases x.inp <;> cases y.inp <;> rfl)⟩); exact Or.inr ⟨by kernel_rfl, rfl⟩)
    try simp only [Act.put, List.setIfInBounds_toArray, List.set_cons_zero, List.set_cons_succ]
    refine wpOps_val (S := M2 w x y) (i := 18) (v := .bool c2) (oi := { dst := some 29, op := Op.pick (Operand.tmp 23) (Operand.const (Value.bool true)) (Operand.tmp 28), type := 4, pos := "ref.go:78", after := #[{ on := 12, ground := Ground.data }, { on := 17, ground := Ground.data }], guard := none }) (by kernel_rfl) ?hy18 (by assumption) ?_
    case hy18 => (subst hc2; cases c1 <;> exact Or.inl ⟨by kernel_rfl, fun w hSw => by (try dsimp only at hSw); go_simp⟩)
    try simp only [Act.put, List.setIfInBounds_toArray, List.set_cons_zero, List.set_cons_succ]
    refine wpOps_val (S := M2 w x y) (i := 19) (v := ?_) (oi := { dst := some 30, op := Op.move (Operand.tmp 29), type := 4, pos := "ref.go:78", after := #[{ on := 18, ground := Ground.data }, { on := 12, ground := Ground.chain }], guard := none }) (by kernel_rfl) (Or.inl ⟨by kernel_rfl, ?hy19⟩) (by assumption) ?_
    case hy19 => (intro w hSw; (try dsimp only at hSw); obtain ⟨xa, xb, xc, xd, xe, xf, xg, xh, xi, xj⟩ := hSw.bx.all; obtain ⟨ya, yb, yc, yd, ye, yf, yg, yh, yi, yj⟩ := hSw.by_.all; go_simp; try with_reducible rfl)
    try simp only [Act.put, List.setIfInBounds_toArray, List.set_cons_zero, List.set_cons_succ]
    refine wpOps_val (S := M2 w x y) (i := 20) (v := bif c2 then undef else .pointer (some ⟨w.heap.size, 5, none⟩)) (oi := { dst := some 31, op := Op.fieldAddr 26 (Operand.tmp 2) 5, type := 0, pos := "ref.go:78", after := #[{ on := 19, ground := Ground.guard }], guard := some (19, false) }) (by kernel_rfl) ?hy20 (by assumption) ?_
    case hy20 => (cases c2; (exact Or.inl ⟨by kernel_rfl, fun w hSw => by (try dsimp only at hSw); go_simp⟩); exact Or.inr ⟨by kernel_rfl, rfl⟩)
    try simp only [Act.put, List.setIfInBounds_toArray, List.set_cons_zero, List.set_cons_succ]
    refine wpOps_val (S := M2 w x y) (i := 21) (v := bif c2 then undef else .bool x.all) (oi := { dst := some 32, op := Op.load 4 (Operand.tmp 31), type := 4, pos := "ref.go:78", after := #[{ on := 20, ground := Ground.data }, { on := 19, ground := Ground.guard }], guard := some (19, false) }) (by kernel_rfl) ?hy21 (by assumption) ?_
    case hy21 => (cases c2; (exact Or.inl ⟨by kernel_rfl, fun w hSw => by (try dsimp only at hSw); obtain ⟨xa, xb, xc, xd, xe, xf, xg, xh, xi, xj⟩ := hSw.bx.all; obtain ⟨ya, yb, yc, yd, ye, yf, yg, yh, yi, yj⟩ := hSw.by_.all; go_simp⟩); exact Or.inr ⟨by kernel_rfl, rfl⟩)
    try simp only [Act.put, List.setIfInBounds_toArray, List.set_cons_zero, List.set_cons_succ]
    refine wpOps_val (S := M2 w x y) (i := 22) (v := bif c2 then undef else .pointer (some ⟨w.heap.size + 1, 5, none⟩)) (oi := { dst := some 33, op := Op.fieldAddr 26 (Operand.tmp 3) 5, type := 0, pos := "ref.go:78", after := #[{ on := 19, ground := Ground.guard }], guard := some (19, false) }) (by kernel_rfl) ?hy22 (by assumption) ?_
    case hy22 => (cases c2; (exact Or.inl ⟨by kernel_rfl, fun w hSw => by (try dsimp only at hSw); go_simp⟩); exact Or.inr ⟨by kernel_rfl, rfl⟩)
    try simp only [Act.put, List.setIfInBounds_toArray, List.set_cons_zero, List.set_cons_succ]
    refine wpOps_val (S := M2 w x y) (i := 23) (v := bif c2 then undef else .bool y.all) (oi := { dst := some 34, op := Op.load 4 (Operand.tmp 33), type := 4, pos := "ref.go:78", after := #[{ on := 22, ground := Ground.data }, { on := 19, ground := Ground.guard }], guard := some (19, false) }) (by kernel_rfl) ?hy23 (by assumption) ?_
    case hy23 => (cases c2; (exact Or.inl ⟨by kernel_rfl, fun w hSw => by (try dsimp only at hSw); obtain ⟨xa, xb, xc, xd, xe, xf, xg, xh, xi, xj⟩ := hSw.bx.all; obtain ⟨ya, yb, yc, yd, ye, yf, yg, yh, yi, yj⟩ := hSw.by_.all; go_simp⟩); exact Or.inr ⟨by kernel_rfl, rfl⟩)
    try simp only [Act.put, List.setIfInBounds_toArray, List.set_cons_zero, List.set_cons_succ]
    refine wpOps_val (S := M2 w x y) (i := 24) (v := bif c2 then undef else .bool d3) (oi := { dst := some 35, op := Op.binOp BinOp.neq 4 (Operand.tmp 32) (Operand.tmp 34) 4, type := 4, pos := "ref.go:78", after := #[{ on := 21, ground := Ground.data }, { on := 23, ground := Ground.data }, { on := 19, ground := Ground.guard }], guard := some (19, false) }) (by kernel_rfl) ?hy24 (by assumption) ?_
    case hy24 => (cases c2; (exact Or.inl ⟨by kernel_rfl, fun w hSw => by (try dsimp only at hSw); go_simp; (rw [← hd3]; cases x.all <;> cases y.all <;> rfl)⟩); exact Or.inr ⟨by kernel_rfl, rfl⟩)
    try simp only [Act.put, List.setIfInBounds_toArray, List.set_cons_zero, List.set_cons_succ]
    refine wpOps_val (S := M2 w x y) (i := 25) (v := .bool c3) (oi := { dst := some 36, op := Op.pick (Operand.tmp 30) (Operand.const (Value.bool true)) (Operand.tmp 35), type := 4, pos := "ref.go:78", after := #[{ on := 19, ground := Ground.data }, { on := 24, ground := Ground.data }], guard := none }) (by kernel_rfl) ?hy25 (by assumption) ?_
    case hy25 => (subst hc3; cases c2 <;> exact Or.inl ⟨by kernel_rfl, fun w hSw => by (try dsimp only at hSw); go_simp⟩)
    try simp only [Act.put, List.setIfInBounds_toArray, List.set_cons_zero, List.set_cons_succ]
    refine wpOps_val (S := M2 w x y) (i := 26) (v := ?_) (oi := { dst := some 37, op := Op.move (Operand.tmp 36), type := 4, pos := "ref.go:78", after := #[{ on := 25, ground := Ground.data }, { on := 19, ground := Ground.chain }], guard := none }) (by kernel_rfl) (Or.inl ⟨by kernel_rfl, ?hy26⟩) (by assumption) ?_
    case hy26 => (intro w hSw; (try dsimp only at hSw); obtain ⟨xa, xb, xc, xd, xe, xf, xg, xh, xi, xj⟩ := hSw.bx.all; obtain ⟨ya, yb, yc, yd, ye, yf, yg, yh, yi, yj⟩ := hSw.by_.all; go_simp; try with_reducible rfl)
    try simp only [Act.put, List.setIfInBounds_toArray, List.set_cons_zero, List.set_cons_succ]
    refine wpOps_val (S := M2 w x y) (i := 27) (v := bif c3 then undef else .pointer (some ⟨w.heap.size, 7, none⟩)) (oi := { dst := some 38, op := Op.fieldAddr 26 (Operand.tmp 2) 7, type := 0, pos := "ref.go:78", after := #[{ on := 26, ground := Ground.guard }], guard := some (26, false) }) (by kernel_rfl) ?hy27 (by assumption) ?_
    case hy27 => (cases c3; (exact Or.inl ⟨by kernel_rfl, fun w hSw => by (try dsimp only at hSw); go_simp⟩); exact Or.inr ⟨by kernel_rfl, rfl⟩)
    try simp only [Act.put, List.setIfInBounds_toArray, List.set_cons_zero, List.set_cons_succ]
    refine wpOps_val (S := M2 w x y) (i := 28) (v := bif c3 then undef else .bool x.ord) (oi := { dst := some 39, op := Op.load 4 (Operand.tmp 38), type := 4, pos := "ref.go:78", after := #[{ on := 27, ground := Ground.data }, { on := 26, ground := Ground.guard }], guard := some (26, false) }) (by kernel_rfl) ?hy28 (by assumption) ?_
    case hy28 => (cases c3; (exact Or.inl ⟨by kernel_rfl, fun w hSw => by (try dsimp only at hSw); obtain ⟨xa, xb, xc, xd, xe, xf, xg, xh, xi, xj⟩ := hSw.bx.all; obtain ⟨ya, yb, yc, yd, ye, yf, yg, yh, yi, yj⟩ := hSw.by_.all; go_simp⟩); exact Or.inr ⟨by kernel_rfl, rfl⟩)
    try simp only [Act.put, List.setIfInBounds_toArray, List.set_cons_zero, List.set_cons_succ]
    refine wpOps_val (S := M2 w x y) (i := 29) (v := bif c3 then undef else .pointer (some ⟨w.heap.size + 1, 7, none⟩)) (oi := { dst := some 40, op := Op.fieldAddr 26 (Operand.tmp 3) 7, type := 0, pos := "ref.go:78", after := #[{ on := 26, ground := Ground.guard }], guard := some (26, false) }) (by kernel_rfl) ?hy29 (by assumption) ?_
    case hy29 => (cases c3; (exact Or.inl ⟨by kernel_rfl, fun w hSw => by (try dsimp only at hSw); go_simp⟩); exact Or.inr ⟨by kernel_rfl, rfl⟩)
    try simp only [Act.put, List.setIfInBounds_toArray, List.set_cons_zero, List.set_cons_succ]
    refine wpOps_val (S := M2 w x y) (i := 30) (v := bif c3 then undef else .bool y.ord) (oi := { dst := some 41, op := Op.load 4 (Operand.tmp 40), type := 4, pos := "ref.go:78", after := #[{ on := 29, ground := Ground.data }, { on := 26, ground := Ground.guard }], guard := some (26, false) }) (by kernel_rfl) ?hy30 (by assumption) ?_
    case hy30 => (cases c3; (exact Or.inl ⟨by kernel_rfl, fun w hSw => by (try dsimp only at hSw); obtain ⟨xa, xb, xc, xd, xe, xf, xg, xh, xi, xj⟩ := hSw.bx.all; obtain ⟨ya, yb, yc, yd, ye, yf, yg, yh, yi, yj⟩ := hSw.by_.all; go_simp⟩); exact Or.inr ⟨by kernel_rfl, rfl⟩)
    try simp only [Act.put, List.setIfInBounds_toArray, List.set_cons_zero, List.set_cons_succ]
    refine wpOps_val (S := M2 w x y) (i := 31) (v := bif c3 then undef else .bool d4) (oi := { dst := some 42, op := Op.binOp BinOp.neq 4 (Operand.tmp 39) (Operand.tmp 41) 4, type := 4, pos := "ref.go:78", after := #[{ on := 28, ground := Ground.data }, { on := 30, ground := Ground.data }, { on := 26, ground := Ground.guard }], guard := some (26, false) }) (by kernel_rfl) ?hy31 (by assumption) ?_
    case hy31 => (cases c3; (exact Or.inl ⟨by kernel_rfl, fun w hSw => by (try dsimp only at hSw); go_simp; (rw [← hd4]; cases x.ord <;> cases y.ord <;> rfl)⟩); exact Or.inr ⟨by kernel_rfl, rfl⟩)
    try simp only [Act.put, List.setIfInBounds_toArray, List.set_cons_zero, List.set_cons_succ]
    refine wpOps_val (S := M2 w x y) (i := 32) (v := .bool c4) (oi := { dst := some 43, op := Op.pick (Operand.tmp 37) (Operand.const (Value.bool true)) (Operand.tmp 42), type := 4, pos := "ref.go:78", after := #[{ on := 26, ground := Ground.data }, { on := 31, ground := Ground.data }], guard := none }) (by kernel_rfl) ?hy32 (by assumption) ?_
    case hy32 => (subst hc4; cases c3 <;> exact Or.inl ⟨by kernel_rfl, fun w hSw => by (try dsimp only at hSw); go_simp⟩)
    try simp only [Act.put, List.setIfInBounds_toArray, List.set_cons_zero, List.set_cons_succ]
    refine wpOps_val (S := M2 w x y) (i := 33) (v := ?_) (oi := { dst := some 44, op := Op.move (Operand.tmp 43), type := 4, pos := "ref.go:78", after := #[{ on := 32, ground := Ground.data }, { on := 26, ground := Ground.chain }], guard := none }) (by kernel_rfl) (Or.inl ⟨by kernel_rfl, ?hy33⟩) (by assumption) ?_
    case hy33 => (intro w hSw; (try dsimp only at hSw); obtain ⟨xa, xb, xc, xd, xe, xf, xg, xh, xi, xj⟩ := hSw.bx.all; obtain ⟨ya, yb, yc, yd, ye, yf, yg, yh, yi, yj⟩ := hSw.by_.all; go_simp; try with_reducible rfl)
    try simp only [Act.put, List.setIfInBounds_toArray, List.set_cons_zero, List.set_cons_succ]
    refine wpOps_val (S := M2 w x y) (i := 34) (v := bif c4 then undef else .pointer (some ⟨w.heap.size, 2, none⟩)) (oi := { dst := some 45, op := Op.fieldAddr 26 (Operand.tmp 2) 2, type := 0, pos := "ref.go:78", after := #[{ on := 33, ground := Ground.guard }], guard := some (33, false) }) (by kernel_rfl) ?hy34 (by assumption) ?_
    case hy34 => (cases c4; (exact Or.inl ⟨by kernel_rfl, fun w hSw => by (try dsimp only at hSw); go_simp⟩); exact Or.inr ⟨by kernel_rfl, rfl⟩)
    try simp only [Act.put, List.setIfInBounds_toArray, List.set_cons_zero, List.set_cons_succ]
    refine wpOps_val (S := M2 w x y) (i := 35) (v := bif c4 then undef else .slice x.dm.a x.dm.n x.dm.c) (oi := { dst := some 46, op := Op.load 22 (Operand.tmp 45), type := 22, pos := "ref.go:78", after := #[{ on := 34, ground := Ground.data }, { on := 33, ground := Ground.guard }], guard := some (33, false) }) (by kernel_rfl) ?hy35 (by assumption) ?_
    case hy35 => (cases c4; (exact Or.inl ⟨by kernel_rfl, fun w hSw => by (try dsimp only at hSw); obtain ⟨xa, xb, xc, xd, xe, xf, xg, xh, xi, xj⟩ := hSw.bx.all; obtain ⟨ya, yb, yc, yd, ye, yf, yg, yh, yi, yj⟩ := hSw.by_.all; go_simp⟩); exact Or.inr ⟨by kernel_rfl, rfl⟩)
    try simp only [Act.put, List.setIfInBounds_toArray, List.set_cons_zero, List.set_cons_succ]
    refine wpOps_val (S := M2 w x y) (i := 36) (v := bif c4 then undef else .int .i64 x.dm.n) (oi := { dst := some 47, op := Op.call { callee := Callee.builtin Builtin.len, args := #[Operand.tmp 46], argTypes := #[22] }, type := 3, pos := "ref.go:78", after := #[{ on := 35, ground := Ground.data }, { on := 33, ground := Ground.guard }], guard := some (33, false) }) (by kernel_rfl) ?hy36 (by assumption) ?_
    case hy36 => (cases c4; (exact Or.inl ⟨by kernel_rfl, fun w hSw => by (try dsimp only at hSw); go_simp⟩); exact Or.inr ⟨by kernel_rfl, rfl⟩)
    try simp only [Act.put, List.setIfInBounds_toArray, List.set_cons_zero, List.set_cons_succ]
    refine wpOps_val (S := M2 w x y) (i := 37) (v := bif c4 then undef else .pointer (some ⟨w.heap.size + 1, 2, none⟩)) (oi := { dst := some 48, op := Op.fieldAddr 26 (Operand.tmp 3) 2, type := 0, pos := "ref.go:78", after := #[{ on := 33, ground := Ground.guard }], guard := some (33, false) }) (by kernel_rfl) ?hy37 (by assumption) ?_
    case hy37 => (cases c4; (exact Or.inl ⟨by kernel_rfl, fun w hSw => by (try dsimp only at hSw); go_simp⟩); exact Or.inr ⟨by kernel_rfl, rfl⟩)
    try simp only [Act.put, List.setIfInBounds_toArray, List.set_cons_zero, List.set_cons_succ]
    refine wpOps_val (S := M2 w x y) (i := 38) (v := bif c4 then undef else .slice y.dm.a y.dm.n y.dm.c) (oi := { dst := some 49, op := Op.load 22 (Operand.tmp 48), type := 22, pos := "ref.go:78", after := #[{ on := 37, ground := Ground.data }, { on := 33, ground := Ground.guard }], guard := some (33, false) }) (by kernel_rfl) ?hy38 (by assumption) ?_
    case hy38 => (cases c4; (exact Or.inl ⟨by kernel_rfl, fun w hSw => by (try dsimp only at hSw); obtain ⟨xa, xb, xc, xd, xe, xf, xg, xh, xi, xj⟩ := hSw.bx.all; obtain ⟨ya, yb, yc, yd, ye, yf, yg, yh, yi, yj⟩ := hSw.by_.all; go_simp⟩); exact Or.inr ⟨by kernel_rfl, rfl⟩)
    try simp only [Act.put, List.setIfInBounds_toArray, List.set_cons_zero, List.set_cons_succ]
    refine wpOps_val (S := M2 w x y) (i := 39) (v := bif c4 then undef else .int .i64 y.dm.n) (oi := { dst := some 50, op := Op.call { callee := Callee.builtin Builtin.len, args := #[Operand.tmp 49], argTypes := #[22] }, type := 3, pos := "ref.go:78", after := #[{ on := 38, ground := Ground.data }, { on := 33, ground := Ground.guard }], guard := some (33, false) }) (by kernel_rfl) ?hy39 (by assumption) ?_
    case hy39 => (cases c4; (exact Or.inl ⟨by kernel_rfl, fun w hSw => by (try dsimp only at hSw); go_simp⟩); exact Or.inr ⟨by kernel_rfl, rfl⟩)
    try simp only [Act.put, List.setIfInBounds_toArray, List.set_cons_zero, List.set_cons_succ]
    refine wpOps_val (S := M2 w x y) (i := 40) (v := bif c4 then undef else .bool d5) (oi := { dst := some 51, op := Op.binOp BinOp.neq 3 (Operand.tmp 47) (Operand.tmp 50) 3, type := 4, pos := "ref.go:78", after := #[{ on := 36, ground := Ground.data }, { on := 39, ground := Ground.data }, { on := 33, ground := Ground.guard }], guard := some (33, false) }) (by kernel_rfl) ?hy40 (by assumption) ?_
    case hy40 => (cases c4; (exact Or.inl ⟨by kernel_rfl, fun w hSw => by (try dsimp only at hSw); go_simp⟩); exact Or.inr ⟨by kernel_rfl, rfl⟩)
    try simp only [Act.put, List.setIfInBounds_toArray, List.set_cons_zero, List.set_cons_succ]
    refine wpOps_val (S := M2 w x y) (i := 41) (v := .bool c5) (oi := { dst := some 52, op := Op.pick (Operand.tmp 44) (Operand.const (Value.bool true)) (Operand.tmp 51), type := 4, pos := "ref.go:78", after := #[{ on := 33, ground := Ground.data }, { on := 40, ground := Ground.data }], guard := none }) (by kernel_rfl) ?hy41 (by assumption) ?_
    case hy41 => (subst hc5; cases c4 <;> exact Or.inl ⟨by kernel_rfl, fun w hSw => by (try dsimp only at hSw); go_simp⟩)
    try simp only [Act.put, List.setIfInBounds_toArray, List.set_cons_zero, List.set_cons_succ]
    refine wpOps_val (S := M2 w x y) (i := 42) (v := ?_) (oi := { dst := some 53, op := Op.move (Operand.tmp 52), type := 4, pos := "ref.go:78", after := #[{ on := 41, ground := Ground.data }, { on := 33, ground := Ground.chain }], guard := none }) (by kernel_rfl) (Or.inl ⟨by kernel_rfl, ?hy42⟩) (by assumption) ?_
    case hy42 => (intro w hSw; (try dsimp only at hSw); obtain ⟨xa, xb, xc, xd, xe, xf, xg, xh, xi, xj⟩ := hSw.bx.all; obtain ⟨ya, yb, yc, yd, ye, yf, yg, yh, yi, yj⟩ := hSw.by_.all; go_simp; try with_reducible rfl)
    try simp only [Act.put, List.setIfInBounds_toArray, List.set_cons_zero, List.set_cons_succ]
    refine wpOps_val (S := M2 w x y) (i := 43) (v := bif c5 then undef else .pointer (some ⟨w.heap.size, 3, none⟩)) (oi := { dst := some 54, op := Op.fieldAddr 26 (Operand.tmp 2) 3, type := 0, pos := "ref.go:78", after := #[{ on := 42, ground := Ground.guard }], guard := some (42, false) }) (by kernel_rfl) ?hy43 (by assumption) ?_
    case hy43 => (cases c5; (exact Or.inl ⟨by kernel_rfl, fun w hSw => by (try dsimp only at hSw); go_simp⟩); exact Or.inr ⟨by kernel_rfl, rfl⟩)
    try simp only [Act.put, List.setIfInBounds_toArray, List.set_cons_zero, List.set_cons_succ]
    refine wpOps_val (S := M2 w x y) (i := 44) (v := bif c5 then undef else .slice x.fr.a x.fr.n x.fr.c) (oi := { dst := some 55, op := Op.load 23 (Operand.tmp 54), type := 23, pos := "ref.go:78", after := #[{ on := 43, ground := Ground.data }, { on := 42, ground := Ground.guard }], guard := some (42, false) }) (by kernel_rfl) ?hy44 (by assumption) ?_
    case hy44 => (cases c5; (exact Or.inl ⟨by kernel_rfl, fun w hSw => by (try dsimp only at hSw); obtain ⟨xa, xb, xc, xd, xe, xf, xg, xh, xi, xj⟩ := hSw.bx.all; obtain ⟨ya, yb, yc, yd, ye, yf, yg, yh, yi, yj⟩ := hSw.by_.all; go_simp⟩); exact Or.inr ⟨by kernel_rfl, rfl⟩)
    try simp only [Act.put, List.setIfInBounds_toArray, List.set_cons_zero, List.set_cons_succ]
    refine wpOps_val (S := M2 w x y) (i := 45) (v := bif c5 then undef else .int .i64 x.fr.n) (oi := { dst := some 56, op := Op.call { callee := Callee.builtin Builtin.len, args := #[Operand.tmp 55], argTypes := #[23] }, type := 3, pos := "ref.go:78", after := #[{ on := 44, ground := Ground.data }, { on := 42, ground := Ground.guard }], guard := some (42, false) }) (by kernel_rfl) ?hy45 (by assumption) ?_
    case hy45 => (cases c5; (exact Or.inl ⟨by kernel_rfl, fun w hSw => by (try dsimp only at hSw); go_simp⟩); exact Or.inr ⟨by kernel_rfl, rfl⟩)
    try simp only [Act.put, List.setIfInBounds_toArray, List.set_cons_zero, List.set_cons_succ]
    refine wpOps_val (S := M2 w x y) (i := 46) (v := bif c5 then undef else .pointer (some ⟨w.heap.size + 1, 3, none⟩)) (oi := { dst := some 57, op := Op.fieldAddr 26 (Operand.tmp 3) 3, type := 0, pos := "ref.go:78", after := #[{ on := 42, ground := Ground.guard }], guard := some (42, false) }) (by kernel_rfl) ?hy46 (by assumption) ?_
    case hy46 => (cases c5; (exact Or.inl ⟨by kernel_rfl, fun w hSw => by (try dsimp only at hSw); go_simp⟩); exact Or.inr ⟨by kernel_rfl, rfl⟩)
    try simp only [Act.put, List.setIfInBounds_toArray, List.set_cons_zero, List.set_cons_succ]
    refine wpOps_val (S := M2 w x y) (i := 47) (v := bif c5 then undef else .slice y.fr.a y.fr.n y.fr.c) (oi := { dst := some 58, op := Op.load 23 (Operand.tmp 57), type := 23, pos := "ref.go:78", after := #[{ on := 46, ground := Ground.data }, { on := 42, ground := Ground.guard }], guard := some (42, false) }) (by kernel_rfl) ?hy47 (by assumption) ?_
    case hy47 => (cases c5; (exact Or.inl ⟨by kernel_rfl, fun w hSw => by (try dsimp only at hSw); obtain ⟨xa, xb, xc, xd, xe, xf, xg, xh, xi, xj⟩ := hSw.bx.all; obtain ⟨ya, yb, yc, yd, ye, yf, yg, yh, yi, yj⟩ := hSw.by_.all; go_simp⟩); exact Or.inr ⟨by kernel_rfl, rfl⟩)
    try simp only [Act.put, List.setIfInBounds_toArray, List.set_cons_zero, List.set_cons_succ]
    refine wpOps_val (S := M2 w x y) (i := 48) (v := bif c5 then undef else .int .i64 y.fr.n) (oi := { dst := some 59, op := Op.call { callee := Callee.builtin Builtin.len, args := #[Operand.tmp 58], argTypes := #[23] }, type := 3, pos := "ref.go:78", after := #[{ on := 47, ground := Ground.data }, { on := 42, ground := Ground.guard }], guard := some (42, false) }) (by kernel_rfl) ?hy48 (by assumption) ?_
    case hy48 => (cases c5; (exact Or.inl ⟨by kernel_rfl, fun w hSw => by (try dsimp only at hSw); go_simp⟩); exact Or.inr ⟨by kernel_rfl, rfl⟩)
    try simp only [Act.put, List.setIfInBounds_toArray, List.set_cons_zero, List.set_cons_succ]
    refine wpOps_val (S := M2 w x y) (i := 49) (v := bif c5 then undef else .bool d6) (oi := { dst := some 60, op := Op.binOp BinOp.neq 3 (Operand.tmp 56) (Operand.tmp 59) 3, type := 4, pos := "ref.go:78", after := #[{ on := 45, ground := Ground.data }, { on := 48, ground := Ground.data }, { on := 42, ground := Ground.guard }], guard := some (42, false) }) (by kernel_rfl) ?hy49 (by assumption) ?_
    case hy49 => (cases c5; (exact Or.inl ⟨by kernel_rfl, fun w hSw => by (try dsimp only at hSw); go_simp⟩); exact Or.inr ⟨by kernel_rfl, rfl⟩)
    try simp only [Act.put, List.setIfInBounds_toArray, List.set_cons_zero, List.set_cons_succ]
    refine wpOps_val (S := M2 w x y) (i := 50) (v := .bool c6) (oi := { dst := some 61, op := Op.pick (Operand.tmp 53) (Operand.const (Value.bool true)) (Operand.tmp 60), type := 4, pos := "ref.go:78", after := #[{ on := 42, ground := Ground.data }, { on := 49, ground := Ground.data }], guard := none }) (by kernel_rfl) ?hy50 (by assumption) ?_
    case hy50 => (subst hc6; cases c5 <;> exact Or.inl ⟨by kernel_rfl, fun w hSw => by (try dsimp only at hSw); go_simp⟩)
    try simp only [Act.put, List.setIfInBounds_toArray, List.set_cons_zero, List.set_cons_succ]
    refine wpOps_val (S := M2 w x y) (i := 51) (v := ?_) (oi := { dst := some 62, op := Op.move (Operand.tmp 61), type := 4, pos := "ref.go:78", after := #[{ on := 50, ground := Ground.data }, { on := 42, ground := Ground.chain }], guard := none }) (by kernel_rfl) (Or.inl ⟨by kernel_rfl, ?hy51⟩) (by assumption) ?_
    case hy51 => (intro w hSw; (try dsimp only at hSw); obtain ⟨xa, xb, xc, xd, xe, xf, xg, xh, xi, xj⟩ := hSw.bx.all; obtain ⟨ya, yb, yc, yd, ye, yf, yg, yh, yi, yj⟩ := hSw.by_.all; go_simp; try with_reducible rfl)
    try simp only [Act.put, List.setIfInBounds_toArray, List.set_cons_zero, List.set_cons_succ]
    refine wpOps_val (S := M2 w x y) (i := 52) (v := bif c6 then undef else .pointer (some ⟨w.heap.size, 6, none⟩)) (oi := { dst := some 63, op := Op.fieldAddr 26 (Operand.tmp 2) 6, type := 0, pos := "ref.go:78", after := #[{ on := 51, ground := Ground.guard }], guard := some (51, false) }) (by kernel_rfl) ?hy52 (by assumption) ?_
    case hy52 => (cases c6; (exact Or.inl ⟨by kernel_rfl, fun w hSw => by (try dsimp only at hSw); go_simp⟩); exact Or.inr ⟨by kernel_rfl, rfl⟩)
    try simp only [Act.put, List.setIfInBounds_toArray, List.set_cons_zero, List.set_cons_succ]
    refine wpOps_val (S := M2 w x y) (i := 53) (v := bif c6 then undef else .slice x.rg.a x.rg.n x.rg.c) (oi := { dst := some 64, op := Op.load 22 (Operand.tmp 63), type := 22, pos := "ref.go:78", after := #[{ on := 52, ground := Ground.data }, { on := 51, ground := Ground.guard }], guard := some (51, false) }) (by kernel_rfl) ?hy53 (by assumption) ?_
    case hy53 => (cases c6; (exact Or.inl ⟨by kernel_rfl, fun w hSw => by (try dsimp only at hSw); obtain ⟨xa, xb, xc, xd, xe, xf, xg, xh, xi, xj⟩ := hSw.bx.all; obtain ⟨ya, yb, yc, yd, ye, yf, yg, yh, yi, yj⟩ := hSw.by_.all; go_simp⟩); exact Or.inr ⟨by kernel_rfl, rfl⟩)
    try simp only [Act.put, List.setIfInBounds_toArray, List.set_cons_zero, List.set_cons_succ]
    refine wpOps_val (S := M2 w x y) (i := 54) (v := bif c6 then undef else .int .i64 x.rg.n) (oi := { dst := some 65, op := Op.call { callee := Callee.builtin Builtin.len, args := #[Operand.tmp 64], argTypes := #[22] }, type := 3, pos := "ref.go:78", after := #[{ on := 53, ground := Ground.data }, { on := 51, ground := Ground.guard }], guard := some (51, false) }) (by kernel_rfl) ?hy54 (by assumption) ?_
    case hy54 => (cases c6; (exact Or.inl ⟨by kernel_rfl, fun w hSw => by (try dsimp only at hSw); go_simp⟩); exact Or.inr ⟨by kernel_rfl, rfl⟩)
    try simp only [Act.put, List.setIfInBounds_toArray, List.set_cons_zero, List.set_cons_succ]
    refine wpOps_val (S := M2 w x y) (i := 55) (v := bif c6 then undef else .pointer (some ⟨w.heap.size + 1, 6, none⟩)) (oi := { dst := some 66, op := Op.fieldAddr 26 (Operand.tmp 3) 6, type := 0, pos := "ref.go:78", after := #[{ on := 51, ground := Ground.guard }], guard := some (51, false) }) (by kernel_rfl) ?hy55 (by assumption) ?_
    case hy55 => (cases c6; (exact Or.inl ⟨by kernel_rfl, fun w hSw => by (try dsimp only at hSw); go_simp⟩); exact Or.inr ⟨by kernel_rfl, rfl⟩)
    try simp only [Act.put, List.setIfInBounds_toArray, List.set_cons_zero, List.set_cons_succ]
    refine wpOps_val (S := M2 w x y) (i := 56) (v := bif c6 then undef else .slice y.rg.a y.rg.n y.rg.c) (oi := { dst := some 67, op := Op.load 22 (Operand.tmp 66), type := 22, pos := "ref.go:78", after := #[{ on := 55, ground := Ground.data }, { on := 51, ground := Ground.guard }], guard := some (51, false) }) (by kernel_rfl) ?hy56 (by assumption) ?_
    case hy56 => (cases c6; (exact Or.inl ⟨by kernel_rfl, fun w hSw => by (try dsimp only at hSw); obtain ⟨xa, xb, xc, xd, xe, xf, xg, xh, xi, xj⟩ := hSw.bx.all; obtain ⟨ya, yb, yc, yd, ye, yf, yg, yh, yi, yj⟩ := hSw.by_.all; go_simp⟩); exact Or.inr ⟨by kernel_rfl, rfl⟩)
    try simp only [Act.put, List.setIfInBounds_toArray, List.set_cons_zero, List.set_cons_succ]
    refine wpOps_val (S := M2 w x y) (i := 57) (v := bif c6 then undef else .int .i64 y.rg.n) (oi := { dst := some 68, op := Op.call { callee := Callee.builtin Builtin.len, args := #[Operand.tmp 67], argTypes := #[22] }, type := 3, pos := "ref.go:78", after := #[{ on := 56, ground := Ground.data }, { on := 51, ground := Ground.guard }], guard := some (51, false) }) (by kernel_rfl) ?hy57 (by assumption) ?_
    case hy57 => (cases c6; (exact Or.inl ⟨by kernel_rfl, fun w hSw => by (try dsimp only at hSw); go_simp⟩); exact Or.inr ⟨by kernel_rfl, rfl⟩)
    try simp only [Act.put, List.setIfInBounds_toArray, List.set_cons_zero, List.set_cons_succ]
    refine wpOps_val (S := M2 w x y) (i := 58) (v := bif c6 then undef else .bool d7) (oi := { dst := some 69, op := Op.binOp BinOp.neq 3 (Operand.tmp 65) (Operand.tmp 68) 3, type := 4, pos := "ref.go:78", after := #[{ on := 54, ground := Ground.data }, { on := 57, ground := Ground.data }, { on := 51, ground := Ground.guard }], guard := some (51, false) }) (by kernel_rfl) ?hy58 (by assumption) ?_
    case hy58 => (cases c6; (exact Or.inl ⟨by kernel_rfl, fun w hSw => by (try dsimp only at hSw); go_simp⟩); exact Or.inr ⟨by kernel_rfl, rfl⟩)
    try simp only [Act.put, List.setIfInBounds_toArray, List.set_cons_zero, List.set_cons_succ]
    refine wpOps_val (S := M2 w x y) (i := 59) (v := .bool c7) (oi := { dst := some 70, op := Op.pick (Operand.tmp 62) (Operand.const (Value.bool true)) (Operand.tmp 69), type := 4, pos := "ref.go:78", after := #[{ on := 51, ground := Ground.data }, { on := 58, ground := Ground.data }], guard := none }) (by kernel_rfl) ?hy59 (by assumption) ?_
    case hy59 => (subst hc7; cases c6 <;> exact Or.inl ⟨by kernel_rfl, fun w hSw => by (try dsimp only at hSw); go_simp⟩)
    try simp only [Act.put, List.setIfInBounds_toArray, List.set_cons_zero, List.set_cons_succ]
    refine wpOps_val (S := M2 w x y) (i := 60) (v := ?_) (oi := { dst := some 71, op := Op.move (Operand.tmp 70), type := 4, pos := "ref.go:78", after := #[{ on := 59, ground := Ground.data }, { on := 51, ground := Ground.chain }], guard := none }) (by kernel_rfl) (Or.inl ⟨by kernel_rfl, ?hy60⟩) (by assumption) ?_
    case hy60 => (intro w hSw; (try dsimp only at hSw); obtain ⟨xa, xb, xc, xd, xe, xf, xg, xh, xi, xj⟩ := hSw.bx.all; obtain ⟨ya, yb, yc, yd, ye, yf, yg, yh, yi, yj⟩ := hSw.by_.all; go_simp; try with_reducible rfl)
    try simp only [Act.put, List.setIfInBounds_toArray, List.set_cons_zero, List.set_cons_succ]
    refine wpOps_val (S := M2 w x y) (i := 61) (v := bif c7 then undef else .pointer (some ⟨w.heap.size, 8, none⟩)) (oi := { dst := some 72, op := Op.fieldAddr 26 (Operand.tmp 2) 8, type := 0, pos := "ref.go:78", after := #[{ on := 60, ground := Ground.guard }], guard := some (60, false) }) (by kernel_rfl) ?hy61 (by assumption) ?_
    case hy61 => (cases c7; (exact Or.inl ⟨by kernel_rfl, fun w hSw => by (try dsimp only at hSw); go_simp⟩); exact Or.inr ⟨by kernel_rfl, rfl⟩)
    try simp only [Act.put, List.setIfInBounds_toArray, List.set_cons_zero, List.set_cons_succ]
    refine wpOps_val (S := M2 w x y) (i := 62) (v := bif c7 then undef else .slice x.od.a x.od.n x.od.c) (oi := { dst := some 73, op := Op.load 23 (Operand.tmp 72), type := 23, pos := "ref.go:78", after := #[{ on := 61, ground := Ground.data }, { on := 60, ground := Ground.guard }], guard := some (60, false) }) (by kernel_rfl) ?hy62 (by assumption) ?_
    case hy62 => (cases c7; (exact Or.inl ⟨by kernel_rfl, fun w hSw => by (try dsimp only at hSw); obtain ⟨xa, xb, xc, xd, xe, xf, xg, xh, xi, xj⟩ := hSw.bx.all; obtain ⟨ya, yb, yc, yd, ye, yf, yg, yh, yi, yj⟩ := hSw.by_.all; go_simp⟩); exact Or.inr ⟨by kernel_rfl, rfl⟩)
    try simp only [Act.put, List.setIfInBounds_toArray, List.set_cons_zero, List.set_cons_succ]
    refine wpOps_val (S := M2 w x y) (i := 63) (v := bif c7 then undef else .int .i64 x.od.n) (oi := { dst := some 74, op := Op.call { callee := Callee.builtin Builtin.len, args := #[Operand.tmp 73], argTypes := #[23] }, type := 3, pos := "ref.go:78", after := #[{ on := 62, ground := Ground.data }, { on := 60, ground := Ground.guard }], guard := some (60, false) }) (by kernel_rfl) ?hy63 (by assumption) ?_
    case hy63 => (cases c7; (exact Or.inl ⟨by kernel_rfl, fun w hSw => by (try dsimp only at hSw); go_simp⟩); exact Or.inr ⟨by kernel_rfl, rfl⟩)
    try simp only [Act.put, List.setIfInBounds_toArray, List.set_cons_zero, List.set_cons_succ]
    refine wpOps_val (S := M2 w x y) (i := 64) (v := bif c7 then undef else .pointer (some ⟨w.heap.size + 1, 8, none⟩)) (oi := { dst := some 75, op := Op.fieldAddr 26 (Operand.tmp 3) 8, type := 0, pos := "ref.go:78", after := #[{ on := 60, ground := Ground.guard }], guard := some (60, false) }) (by kernel_rfl) ?hy64 (by assumption) ?_
    case hy64 => (cases c7; (exact Or.inl ⟨by kernel_rfl, fun w hSw => by (try dsimp only at hSw); go_simp⟩); exact Or.inr ⟨by kernel_rfl, rfl⟩)
    try simp only [Act.put, List.setIfInBounds_toArray, List.set_cons_zero, List.set_cons_succ]
    refine wpOps_val (S := M2 w x y) (i := 65) (v := bif c7 then undef else .slice y.od.a y.od.n y.od.c) (oi := { dst := some 76, op := Op.load 23 (Operand.tmp 75), type := 23, pos := "ref.go:78", after := #[{ on := 64, ground := Ground.data }, { on := 60, ground := Ground.guard }], guard := some (60, false) }) (by kernel_rfl) ?hy65 (by assumption) ?_
    case hy65 => (cases c7; (exact Or.inl ⟨by kernel_rfl, fun w hSw => by (try dsimp only at hSw); obtain ⟨xa, xb, xc, xd, xe, xf, xg, xh, xi, xj⟩ := hSw.bx.all; obtain ⟨ya, yb, yc, yd, ye, yf, yg, yh, yi, yj⟩ := hSw.by_.all; go_simp⟩); exact Or.inr ⟨by kernel_rfl, rfl⟩)
    try simp only [Act.put, List.setIfInBounds_toArray, List.set_cons_zero, List.set_cons_succ]
    refine wpOps_val (S := M2 w x y) (i := 66) (v := bif c7 then undef else .int .i64 y.od.n) (oi := { dst := some 77, op := Op.call { callee := Callee.builtin Builtin.len, args := #[Operand.tmp 76], argTypes := #[23] }, type := 3, pos := "ref.go:78", after := #[{ on := 65, ground := Ground.data }, { on := 60, ground := Ground.guard }], guard := some (60, false) }) (by kernel_rfl) ?hy66 (by assumption) ?_
    case hy66 => (cases c7; (exact Or.inl ⟨by kernel_rfl, fun w hSw => by (try dsimp only at hSw); go_simp⟩); exact Or.inr ⟨by kernel_rfl, rfl⟩)
    try simp only [Act.put, List.setIfInBounds_toArray, List.set_cons_zero, List.set_cons_succ]
    refine wpOps_val (S := M2 w x y) (i := 67) (v := bif c7 then undef else .bool d8) (oi := { dst := some 78, op := Op.binOp BinOp.neq 3 (Operand.tmp 74) (Operand.tmp 77) 3, type := 4, pos := "ref.go:78", after := #[{ on := 63, ground := Ground.data }, { on := 66, ground := Ground.data }, { on := 60, ground := Ground.guard }], guard := some (60, false) }) (by kernel_rfl) ?hy67 (by assumption) ?_
    case hy67 => (cases c7; (exact Or.inl ⟨by kernel_rfl, fun w hSw => by (try dsimp only at hSw); go_simp⟩); exact Or.inr ⟨by kernel_rfl, rfl⟩)
    try simp only [Act.put, List.setIfInBounds_toArray, List.set_cons_zero, List.set_cons_succ]
    refine wpOps_val (S := M2 w x y) (i := 68) (v := .bool c8) (oi := { dst := some 79, op := Op.pick (Operand.tmp 71) (Operand.const (Value.bool true)) (Operand.tmp 78), type := 4, pos := "ref.go:78", after := #[{ on := 60, ground := Ground.data }, { on := 67, ground := Ground.data }], guard := none }) (by kernel_rfl) ?hy68 (by assumption) ?_
    case hy68 => (subst hc8; cases c7 <;> exact Or.inl ⟨by kernel_rfl, fun w hSw => by (try dsimp only at hSw); go_simp⟩)
    try simp only [Act.put, List.setIfInBounds_toArray, List.set_cons_zero, List.set_cons_succ]
    refine wpOps_val (S := M2 w x y) (i := 69) (v := ?_) (oi := { dst := some 80, op := Op.move (Operand.tmp 79), type := 4, pos := "ref.go:78", after := #[{ on := 68, ground := Ground.data }, { on := 60, ground := Ground.chain }], guard := none }) (by kernel_rfl) (Or.inl ⟨by kernel_rfl, ?hy69⟩) (by assumption) ?_
    case hy69 => (intro w hSw; (try dsimp only at hSw); obtain ⟨xa, xb, xc, xd, xe, xf, xg, xh, xi, xj⟩ := hSw.bx.all; obtain ⟨ya, yb, yc, yd, ye, yf, yg, yh, yi, yj⟩ := hSw.by_.all; go_simp; try with_reducible rfl)
    try simp only [Act.put, List.setIfInBounds_toArray, List.set_cons_zero, List.set_cons_succ]
    refine wpOps_val (S := M2 w x y) (i := 70) (v := bif c8 then undef else .pointer (some ⟨w.heap.size, 9, none⟩)) (oi := { dst := some 81, op := Op.fieldAddr 26 (Operand.tmp 2) 9, type := 0, pos := "ref.go:78", after := #[{ on := 69, ground := Ground.guard }], guard := some (69, false) }) (by kernel_rfl) ?hy70 (by assumption) ?_
    case hy70 => (cases c8; (exact Or.inl ⟨by kernel_rfl, fun w hSw => by (try dsimp only at hSw); go_simp⟩); exact Or.inr ⟨by kernel_rfl, rfl⟩)
    try simp only [Act.put, List.setIfInBounds_toArray, List.set_cons_zero, List.set_cons_succ]
    refine wpOps_val (S := M2 w x y) (i := 71) (v := bif c8 then undef else .slice x.pl.a x.pl.n x.pl.c) (oi := { dst := some 82, op := Op.load 24 (Operand.tmp 81), type := 24, pos := "ref.go:78", after := #[{ on := 70, ground := Ground.data }, { on := 69, ground := Ground.guard }], guard := some (69, false) }) (by kernel_rfl) ?hy71 (by assumption) ?_
    case hy71 => (cases c8; (exact Or.inl ⟨by kernel_rfl, fun w hSw => by (try dsimp only at hSw); obtain ⟨xa, xb, xc, xd, xe, xf, xg, xh, xi, xj⟩ := hSw.bx.all; obtain ⟨ya, yb, yc, yd, ye, yf, yg, yh, yi, yj⟩ := hSw.by_.all; go_simp⟩); exact Or.inr ⟨by kernel_rfl, rfl⟩)
    try simp only [Act.put, List.setIfInBounds_toArray, List.set_cons_zero, List.set_cons_succ]
    refine wpOps_val (S := M2 w x y) (i := 72) (v := bif c8 then undef else .int .i64 x.pl.n) (oi := { dst := some 83, op := Op.call { callee := Callee.builtin Builtin.len, args := #[Operand.tmp 82], argTypes := #[24] }, type := 3, pos := "ref.go:78", after := #[{ on := 71, ground := Ground.data }, { on := 69, ground := Ground.guard }], guard := some (69, false) }) (by kernel_rfl) ?hy72 (by assumption) ?_
    case hy72 => (cases c8; (exact Or.inl ⟨by kernel_rfl, fun w hSw => by (try dsimp only at hSw); go_simp⟩); exact Or.inr ⟨by kernel_rfl, rfl⟩)
    try simp only [Act.put, List.setIfInBounds_toArray, List.set_cons_zero, List.set_cons_succ]
    refine wpOps_val (S := M2 w x y) (i := 73) (v := bif c8 then undef else .pointer (some ⟨w.heap.size + 1, 9, none⟩)) (oi := { dst := some 84, op := Op.fieldAddr 26 (Operand.tmp 3) 9, type := 0, pos := "ref.go:78", after := #[{ on := 69, ground := Ground.guard }], guard := some (69, false) }) (by kernel_rfl) ?hy73 (by assumption) ?_
    case hy73 => (cases c8; (exact Or.inl ⟨by kernel_rfl, fun w hSw => by (try dsimp only at hSw); go_simp⟩); exact Or.inr ⟨by kernel_rfl, rfl⟩)
    try simp only [Act.put, List.setIfInBounds_toArray, List.set_cons_zero, List.set_cons_succ]
    refine wpOps_val (S := M2 w x y) (i := 74) (v := bif c8 then undef else .slice y.pl.a y.pl.n y.pl.c) (oi := { dst := some 85, op := Op.load 24 (Operand.tmp 84), type := 24, pos := "ref.go:78", after := #[{ on := 73, ground := Ground.data }, { on := 69, ground := Ground.guard }], guard := some (69, false) }) (by kernel_rfl) ?hy74 (by assumption) ?_
    case hy74 => (cases c8; (exact Or.inl ⟨by kernel_rfl, fun w hSw => by (try dsimp only at hSw); obtain ⟨xa, xb, xc, xd, xe, xf, xg, xh, xi, xj⟩ := hSw.bx.all; obtain ⟨ya, yb, yc, yd, ye, yf, yg, yh, yi, yj⟩ := hSw.by_.all; go_simp⟩); exact Or.inr ⟨by kernel_rfl, rfl⟩)
    try simp only [Act.put, List.setIfInBounds_toArray, List.set_cons_zero, List.set_cons_succ]
    refine wpOps_val (S := M2 w x y) (i := 75) (v := bif c8 then undef else .int .i64 y.pl.n) (oi := { dst := some 86, op := Op.call { callee := Callee.builtin Builtin.len, args := #[Operand.tmp 85], argTypes := #[24] }, type := 3, pos := "ref.go:78", after := #[{ on := 74, ground := Ground.data }, { on := 69, ground := Ground.guard }], guard := some (69, false) }) (by kernel_rfl) ?hy75 (by assumption) ?_
    case hy75 => (cases c8; (exact Or.inl ⟨by kernel_rfl, fun w hSw => by (try dsimp only at hSw); go_simp⟩); exact Or.inr ⟨by kernel_rfl, rfl⟩)
    try simp only [Act.put, List.setIfInBounds_toArray, List.set_cons_zero, List.set_cons_succ]
    refine wpOps_val (S := M2 w x y) (i := 76) (v := bif c8 then undef else .bool d9) (oi := { dst := some 87, op := Op.binOp BinOp.neq 3 (Operand.tmp 83) (Operand.tmp 86) 3, type := 4, pos := "ref.go:78", after := #[{ on := 72, ground := Ground.data }, { on := 75, ground := Ground.data }, { on := 69, ground := Ground.guard }], guard := some (69, false) }) (by kernel_rfl) ?hy76 (by assumption) ?_
    case hy76 => (cases c8; (exact Or.inl ⟨by kernel_rfl, fun w hSw => by (try dsimp only at hSw); go_simp⟩); exact Or.inr ⟨by kernel_rfl, rfl⟩)
    try simp only [Act.put, List.setIfInBounds_toArray, List.set_cons_zero, List.set_cons_succ]
    refine wpOps_val (S := M2 w x y) (i := 77) (v := .bool c9) (oi := { dst := some 88, op := Op.pick (Operand.tmp 80) (Operand.const (Value.bool true)) (Operand.tmp 87), type := 4, pos := "ref.go:78", after := #[{ on := 69, ground := Ground.data }, { on := 76, ground := Ground.data }], guard := none }) (by kernel_rfl) ?hy77 (by assumption) ?_
    case hy77 => (subst hc9; cases c8 <;> exact Or.inl ⟨by kernel_rfl, fun w hSw => by (try dsimp only at hSw); go_simp⟩)
    try simp only [Act.put, List.setIfInBounds_toArray, List.set_cons_zero, List.set_cons_succ]
    refine wpOps_end ?_
    go_wp2_with fail
    go_meet
    exact ⟨rfl, HMM.out⟩
  obtain ⟨rfl, hMM⟩ := hcut
  have HBX := hid hMM.bx
  have HBY := hid hMM.by_
  have HBW := hid hMM.bel
  clear hMM HMM
  cases hD : c9 with
  | true =>
    go_wp2
    go_ret
    refine ⟨ret_bool ?_, HBW.out⟩
    rw [Ef.out]
    symm
    cases g0 : (x.at_ == y.at_)
    · simp
    cases g1 : (x.buf == y.buf)
    · simp
    cases g2 : (x.inp == y.inp)
    · simp
    cases g3 : (x.all == y.all)
    · simp
    cases g4 : (x.ord == y.ord)
    · simp
    cases gdm : ((x.dm.n : Int) != y.dm.n)
    case true => rw [Ddm.out gdm]; simp
    cases gfr : ((x.fr.n : Int) != y.fr.n)
    case true => rw [Dfr.out gfr]; simp
    cases grg : ((x.rg.n : Int) != y.rg.n)
    case true => rw [Drg.out grg]; simp
    cases god : ((x.od.n : Int) != y.od.n)
    case true => rw [Dod.out god]; simp
    cases gpl : ((x.pl.n : Int) != y.pl.n)
    case true => rw [Dpl.out gpl]; simp
    exfalso
    have q0 : d0 = false := by rw [← hd0, bne, g0]; rfl
    have q1 : d1 = false := by rw [← hd1, bne, g1]; rfl
    have q2 : d2 = false := by rw [← hd2, bne, g2]; rfl
    have q3 : d3 = false := by rw [← hd3, bne, g3]; rfl
    have q4 : d4 = false := by rw [← hd4, bne, g4]; rfl
    have q5 : d5 = false := by rw [← hd5, gdm]
    have q6 : d6 = false := by rw [← hd6, gfr]
    have q7 : d7 = false := by rw [← hd7, grg]
    have q8 : d8 = false := by rw [← hd8, god]
    have q9 : d9 = false := by rw [← hd9, gpl]
    rw [← hc9, ← hc8, ← hc7, ← hc6, ← hc5, ← hc4, ← hc3, ← hc2, ← hc1, q0, q1, q2, q3, q4, q5, q6, q7, q8, q9] at hD
    cases hD
  | false =>
    rw [← hc9, ← hc8, ← hc7, ← hc6, ← hc5, ← hc4, ← hc3, ← hc2, ← hc1] at hD
    simp only [Bool.or_eq_false_iff] at hD
    obtain ⟨⟨⟨⟨⟨⟨⟨⟨⟨q0, q1⟩, q2⟩, q3⟩, q4⟩, q5⟩, q6⟩, q7⟩, q8⟩, q9⟩ := hD
    rw [← hd0] at q0
    rw [← hd1] at q1
    rw [← hd2] at q2
    rw [← hd3] at q3
    rw [← hd4] at q4
    rw [← hd5] at q5
    rw [← hd6] at q6
    rw [← hd7] at q7
    rw [← hd8] at q8
    rw [← hd9] at q9
    have E0 := hid (show (x.at_ == y.at_) = true by simpa using q0)
    have E1 := hid (show (x.buf == y.buf) = true by simpa using q1)
    have E4 := hid (show (x.inp == y.inp) = true by simpa using q2)
    have E5 := hid (show (x.all == y.all) = true by simpa using q3)
    have E7 := hid (show (x.ord == y.ord) = true by simpa using q4)
    have Ndm := hid (show x.dm.n = y.dm.n by have := q5; simp at this; omega)
    have Nfr := hid (show x.fr.n = y.fr.n by have := q6; simp at this; omega)
    have Nrg := hid (show x.rg.n = y.rg.n by have := q7; simp at this; omega)
    have Nod := hid (show x.od.n = y.od.n by have := q8; simp at this; omega)
    have Npl := hid (show x.pl.n = y.pl.n by have := q9; simp at this; omega)
    clear hd0 hd1 hd2 hd3 hd4 hd5 hd6 hd7 hd8 hd9 hc1 hc2 hc3 hc4 hc5 hc6 hc7 hc8 hc9 q0 q1 q2 q3 q4 q5 q6 q7 q8 q9
    go_wp2
    -- the first one
    go_loopw [5, 6] (fun k i wr => ∃ j : Nat, i = .int .i64 j ∧ j ≤ x.dm.n ∧ k = .bool (ac true x.dm.l y.dm.l j) ∧ Bs wr w.heap.size x ∧ Bs wr (w.heap.size + 1) y ∧ RowKit.Below w.heap.size w wr) (fun _ i _ => x.dm.n - (numOf i).toNat)
    case atStart => exact ⟨0, rfl, by omega, by rw [ac_zero], HBX.out, HBY.out, HBW.out⟩
    case round =>
      obtain ⟨j, rfl, hj, rfl, hX, hY, hB⟩ := hrel
      have HX0 := hid hX
      have HY0 := hid hY
      have HB0 := hid hB
      obtain ⟨xa, xb, xc, xd, xe, xf, xg, xh, xi, xj⟩ := hX.all
      obtain ⟨ya, yb, yc, yd, ye, yf, yg, yh, yi, yj⟩ := hY.all
      clear hX hY hB
      by_cases hgo : j < x.dm.n
      · have e1 : decide ((j : Int) < x.dm.n) = true := decide_eq_true (by omega)
        have e2 : (j : Int) < x.dm.n := by omega
        have e3 : (j : Int) < y.dm.n := by rw [Ndm.out] at e2; exact e2
        obtain ⟨bx, ox, x0, x1, x2, x3, hax, _, hlx, c0, c1, c2, c3⟩ := (HX.out.dm.on HB0.out).el4 hgo
        obtain ⟨by', oy, y0, y1, y2, y3, hay, _, hly, d0, d1, d2, d3⟩ := (HY.out.dm.on HB0.out).el4 (j := j) (by omega)
        rw [hax] at xc
        rw [hay] at yc
        have HS := hid (ac_succ (A := true) hlx hly)
        clear hlx hly hax hay
        obtain ⟨k, hk⟩ : ∃ k, ac true x.dm.l y.dm.l j = k := ⟨_, rfl⟩
        rw [hk] at HS ⊢
        clear hk
        cases k
        · go_wp2
          go_quiet (fail)
          go_wp2
          go_roundw
          case rel => exact ⟨j + 1, by go_num, by omega, by rw [HS.out]; rfl, HX0.out.on (below_drewN (Below.refl _ _) _), HY0.out.on (below_drewN (Below.refl _ _) _), below_drewN HB0.out _⟩
          case measure => simp [numOf]; omega
        · go_wp2
          go_quiet (fail)
          go_wp2
          go_roundw
          case rel => exact ⟨j + 1, by go_num, by omega, by rw [HS.out]; rfl, HX0.out.on (below_drewN (Below.refl _ _) _), HY0.out.on (below_drewN (Below.refl _ _) _), below_drewN HB0.out _⟩
          case measure => simp [numOf]; omega
      · have e1 : decide ((j : Int) < x.dm.n) = false := decide_eq_false (by omega)
        obtain ⟨A1, hA1⟩ : ∃ A, (ac true x.dm.l y.dm.l j) = A := ⟨_, rfl⟩
        have HA1 : Hid (A1 = (true && leqs x.dm.l y.dm.l)) := by rw [Hid, ← hA1, show j = x.dm.n by omega, ac_end HX.out.dm.len (by rw [HY.out.dm.len, Ndm.out])]
        rw [hA1]
        clear hA1
        go_wp2
        go_loopw [5, 7] (fun k i wr => ∃ j : Nat, i = .int .i64 j ∧ j ≤ x.fr.n ∧ k = .bool (ac A1 x.fr.l y.fr.l j) ∧ Bs wr w.heap.size x ∧ Bs wr (w.heap.size + 1) y ∧ RowKit.Below w.heap.size w wr) (fun _ i _ => x.fr.n - (numOf i).toNat)
        case atStart => exact ⟨0, rfl, by omega, by rw [ac_zero], HX0.out, HY0.out, HB0.out⟩
        case round =>
          obtain ⟨j, rfl, hj, rfl, hX, hY, hB⟩ := hrel
          have HX1 := hid hX
          have HY1 := hid hY
          have HB1 := hid hB
          obtain ⟨xa, xb, xc, xd, xe, xf, xg, xh, xi, xj⟩ := hX.all
          obtain ⟨ya, yb, yc, yd, ye, yf, yg, yh, yi, yj⟩ := hY.all
          clear hX hY hB
          by_cases hgo : j < x.fr.n
          · have e1 : decide ((j : Int) < x.fr.n) = true := decide_eq_true (by omega)
            have e2 : (j : Int) < x.fr.n := by omega
            have e3 : (j : Int) < y.fr.n := by rw [Nfr.out] at e2; exact e2
            obtain ⟨bx, ox, x0, hax, _, hlx, c0⟩ := (HX.out.fr.on HB1.out).el1 hgo
            obtain ⟨by', oy, y0, hay, _, hly, d0⟩ := (HY.out.fr.on HB1.out).el1 (j := j) (by omega)
            rw [hax] at xd
            rw [hay] at yd
            have HS := hid (ac_succ (A := A1) hlx hly)
            rw [leq_one] at HS
            clear hlx hly hax hay
            obtain ⟨k, hk⟩ : ∃ k, ac A1 x.fr.l y.fr.l j = k := ⟨_, rfl⟩
            rw [hk] at HS ⊢
            clear hk
            cases k
            · go_wp2
              go_quiet (fail)
              go_wp2
              go_roundw
              case rel => exact ⟨j + 1, by go_num, by omega, by rw [HS.out]; rfl, HX1.out.on (below_drewN (Below.refl _ _) _), HY1.out.on (below_drewN (Below.refl _ _) _), below_drewN HB1.out _⟩
              case measure => simp [numOf]; omega
            · go_wp2
              go_quiet (fail)
              go_wp2
              go_roundw
              case rel => exact ⟨j + 1, by go_num, by omega, by rw [HS.out]; rfl, HX1.out.on (below_drewN (Below.refl _ _) _), HY1.out.on (below_drewN (Below.refl _ _) _), below_drewN HB1.out _⟩
              case measure => simp [numOf]; omega
          · have e1 : decide ((j : Int) < x.fr.n) = false := decide_eq_false (by omega)
            obtain ⟨A2, hA2⟩ : ∃ A, (ac A1 x.fr.l y.fr.l j) = A := ⟨_, rfl⟩
            have HA2 : Hid (A2 = (A1 && leqs x.fr.l y.fr.l)) := by rw [Hid, ← hA2, show j = x.fr.n by omega, ac_end HX.out.fr.len (by rw [HY.out.fr.len, Nfr.out])]
            rw [hA2]
            clear hA2
            go_wp2
            go_loopw [5, 8] (fun k i wr => ∃ j : Nat, i = .int .i64 j ∧ j ≤ x.rg.n ∧ k = .bool (ac A2 x.rg.l y.rg.l j) ∧ Bs wr w.heap.size x ∧ Bs wr (w.heap.size + 1) y ∧ RowKit.Below w.heap.size w wr) (fun _ i _ => x.rg.n - (numOf i).toNat)
            case atStart => exact ⟨0, rfl, by omega, by rw [ac_zero], HX1.out, HY1.out, HB1.out⟩
            case round =>
              obtain ⟨j, rfl, hj, rfl, hX, hY, hB⟩ := hrel
              have HX2 := hid hX
              have HY2 := hid hY
              have HB2 := hid hB
              obtain ⟨xa, xb, xc, xd, xe, xf, xg, xh, xi, xj⟩ := hX.all
              obtain ⟨ya, yb, yc, yd, ye, yf, yg, yh, yi, yj⟩ := hY.all
              clear hX hY hB
              by_cases hgo : j < x.rg.n
              · have e1 : decide ((j : Int) < x.rg.n) = true := decide_eq_true (by omega)
                have e2 : (j : Int) < x.rg.n := by omega
                have e3 : (j : Int) < y.rg.n := by rw [Nrg.out] at e2; exact e2
                obtain ⟨bx, ox, x0, x1, x2, x3, hax, _, hlx, c0, c1, c2, c3⟩ := (HX.out.rg.on HB2.out).el4 hgo
                obtain ⟨by', oy, y0, y1, y2, y3, hay, _, hly, d0, d1, d2, d3⟩ := (HY.out.rg.on HB2.out).el4 (j := j) (by omega)
                rw [hax] at xg
                rw [hay] at yg
                have HS := hid (ac_succ (A := A2) hlx hly)
                clear hlx hly hax hay
                obtain ⟨k, hk⟩ : ∃ k, ac A2 x.rg.l y.rg.l j = k := ⟨_, rfl⟩
                rw [hk] at HS ⊢
                clear hk
                cases k
                · go_wp2
                  go_quiet (fail)
                  go_wp2
                  go_roundw
                  case rel => exact ⟨j + 1, by go_num, by omega, by rw [HS.out]; rfl, HX2.out.on (below_drewN (Below.refl _ _) _), HY2.out.on (below_drewN (Below.refl _ _) _), below_drewN HB2.out _⟩
                  case measure => simp [numOf]; omega
                · go_wp2
                  go_quiet (fail)
                  go_wp2
                  go_roundw
                  case rel => exact ⟨j + 1, by go_num, by omega, by rw [HS.out]; rfl, HX2.out.on (below_drewN (Below.refl _ _) _), HY2.out.on (below_drewN (Below.refl _ _) _), below_drewN HB2.out _⟩
                  case measure => simp [numOf]; omega
              · have e1 : decide ((j : Int) < x.rg.n) = false := decide_eq_false (by omega)
                obtain ⟨A3, hA3⟩ : ∃ A, (ac A2 x.rg.l y.rg.l j) = A := ⟨_, rfl⟩
                have HA3 : Hid (A3 = (A2 && leqs x.rg.l y.rg.l)) := by rw [Hid, ← hA3, show j = x.rg.n by omega, ac_end HX.out.rg.len (by rw [HY.out.rg.len, Nrg.out])]
                rw [hA3]
                clear hA3
                go_wp2
                go_loopw [5, 9] (fun k i wr => ∃ j : Nat, i = .int .i64 j ∧ j ≤ x.od.n ∧ k = .bool (ac A3 x.od.l y.od.l j) ∧ Bs wr w.heap.size x ∧ Bs wr (w.heap.size + 1) y ∧ RowKit.Below w.heap.size w wr) (fun _ i _ => x.od.n - (numOf i).toNat)
                case atStart => exact ⟨0, rfl, by omega, by rw [ac_zero], HX2.out, HY2.out, HB2.out⟩
                case round =>
                  obtain ⟨j, rfl, hj, rfl, hX, hY, hB⟩ := hrel
                  have HX3 := hid hX
                  have HY3 := hid hY
                  have HB3 := hid hB
                  obtain ⟨xa, xb, xc, xd, xe, xf, xg, xh, xi, xj⟩ := hX.all
                  obtain ⟨ya, yb, yc, yd, ye, yf, yg, yh, yi, yj⟩ := hY.all
                  clear hX hY hB
                  by_cases hgo : j < x.od.n
                  · have e1 : decide ((j : Int) < x.od.n) = true := decide_eq_true (by omega)
                    have e2 : (j : Int) < x.od.n := by omega
                    have e3 : (j : Int) < y.od.n := by rw [Nod.out] at e2; exact e2
                    obtain ⟨bx, ox, x0, hax, _, hlx, c0⟩ := (HX.out.od.on HB3.out).el1 hgo
                    obtain ⟨by', oy, y0, hay, _, hly, d0⟩ := (HY.out.od.on HB3.out).el1 (j := j) (by omega)
                    rw [hax] at xi
                    rw [hay] at yi
                    have HS := hid (ac_succ (A := A3) hlx hly)
                    rw [leq_one] at HS
                    clear hlx hly hax hay
                    obtain ⟨k, hk⟩ : ∃ k, ac A3 x.od.l y.od.l j = k := ⟨_, rfl⟩
                    rw [hk] at HS ⊢
                    clear hk
                    cases k
                    · go_wp2
                      go_quiet (fail)
                      go_wp2
                      go_roundw
                      case rel => exact ⟨j + 1, by go_num, by omega, by rw [HS.out]; rfl, HX3.out.on (below_drewN (Below.refl _ _) _), HY3.out.on (below_drewN (Below.refl _ _) _), below_drewN HB3.out _⟩
                      case measure => simp [numOf]; omega
                    · go_wp2
                      go_quiet (fail)
                      go_wp2
                      go_roundw
                      case rel => exact ⟨j + 1, by go_num, by omega, by rw [HS.out]; rfl, HX3.out.on (below_drewN (Below.refl _ _) _), HY3.out.on (below_drewN (Below.refl _ _) _), below_drewN HB3.out _⟩
                      case measure => simp [numOf]; omega
                  · have e1 : decide ((j : Int) < x.od.n) = false := decide_eq_false (by omega)
                    obtain ⟨A4, hA4⟩ : ∃ A, (ac A3 x.od.l y.od.l j) = A := ⟨_, rfl⟩
                    have HA4 : Hid (A4 = (A3 && leqs x.od.l y.od.l)) := by rw [Hid, ← hA4, show j = x.od.n by omega, ac_end HX.out.od.len (by rw [HY.out.od.len, Nod.out])]
                    rw [hA4]
                    clear hA4
                    go_wp2
                    go_loopw [5, 10] (fun k i wr => ∃ j : Nat, i = .int .i64 j ∧ j ≤ x.pl.n ∧ k = .bool (ac A4 x.pl.l y.pl.l j) ∧ Bs wr w.heap.size x ∧ Bs wr (w.heap.size + 1) y ∧ RowKit.Below w.heap.size w wr) (fun _ i _ => x.pl.n - (numOf i).toNat)
                    case atStart => exact ⟨0, rfl, by omega, by rw [ac_zero], HX3.out, HY3.out, HB3.out⟩
                    case round =>
                      obtain ⟨j, rfl, hj, rfl, hX, hY, hB⟩ := hrel
                      have HX4 := hid hX
                      have HY4 := hid hY
                      have HB4 := hid hB
                      obtain ⟨xa, xb, xc, xd, xe, xf, xg, xh, xi, xj⟩ := hX.all
                      obtain ⟨ya, yb, yc, yd, ye, yf, yg, yh, yi, yj⟩ := hY.all
                      clear hX hY hB
                      by_cases hgo : j < x.pl.n
                      · have e1 : decide ((j : Int) < x.pl.n) = true := decide_eq_true (by omega)
                        have e2 : (j : Int) < x.pl.n := by omega
                        have e3 : (j : Int) < y.pl.n := by rw [Npl.out] at e2; exact e2
                        obtain ⟨bx, ox, x0, x1, x2, hax, _, hlx, c0, c1, c2⟩ := (HX.out.pl.on HB4.out).el3 hgo
                        obtain ⟨by', oy, y0, y1, y2, hay, _, hly, d0, d1, d2⟩ := (HY.out.pl.on HB4.out).el3 (j := j) (by omega)
                        rw [hax] at xj
                        rw [hay] at yj
                        have HS := hid (ac_succ (A := A4) hlx hly)
                        clear hlx hly hax hay
                        obtain ⟨k, hk⟩ : ∃ k, ac A4 x.pl.l y.pl.l j = k := ⟨_, rfl⟩
                        rw [hk] at HS ⊢
                        clear hk
                        cases k
                        · go_wp2
                          go_quiet (fail)
                          go_wp2
                          go_roundw
                          case rel => exact ⟨j + 1, by go_num, by omega, by rw [HS.out]; rfl, HX4.out.on (below_drewN (Below.refl _ _) _), HY4.out.on (below_drewN (Below.refl _ _) _), below_drewN HB4.out _⟩
                          case measure => simp [numOf]; omega
                        · go_wp2
                          go_quiet (fail)
                          go_wp2
                          go_roundw
                          case rel => exact ⟨j + 1, by go_num, by omega, by rw [HS.out]; rfl, HX4.out.on (below_drewN (Below.refl _ _) _), HY4.out.on (below_drewN (Below.refl _ _) _), below_drewN HB4.out _⟩
                          case measure => simp [numOf]; omega
                      · have e1 : decide ((j : Int) < x.pl.n) = false := decide_eq_false (by omega)
                        obtain ⟨A5, hA5⟩ : ∃ A, (ac A4 x.pl.l y.pl.l j) = A := ⟨_, rfl⟩
                        have HA5 : Hid (A5 = (A4 && leqs x.pl.l y.pl.l)) := by rw [Hid, ← hA5, show j = x.pl.n by omega, ac_end HX.out.pl.len (by rw [HY.out.pl.len, Npl.out])]
                        rw [hA5]
                        clear hA5
                        go_wp2
                        go_ret
                        exact ⟨ret_bool (by rw [Ef.out, E0.out, E1.out, E4.out, E5.out, E7.out, HA5.out, HA4.out, HA3.out, HA2.out, HA1.out]; simp [Bool.and_assoc]), HB4.out⟩
end Go.Proofs.Ytcdflegfjannmaa
