/- StateChains: for every three states the law returns true; nothing that was there has turned. Written by state/mk_chains.py. -/
import Derived.Test.YtcdflegfjannmaaStaN
import Derived.Test.YtcdflegfjannmaaStaL
namespace Go.Proofs.Ytcdflegfjannmaa.stateChains
open Go Go.RowKit

theorem bel3 (w : World) (o o' o'' : Obj) : Below w.heap.size w (((w.alloc o).alloc o').alloc o'') := Below.on (Below.on (bel_new _ _) (bel_new _ _)) (bel_new _ _)
theorem ch_new (w : World) (n a b : Sx) (okn : n.Ok w) (oka : a.Ok w) (okb : b.Ok w) : Ch w [(w.heap.size, n), (w.heap.size + 1, a), (w.heap.size + 1 + 1, b)] (((w.alloc (.cells #[.bool n.at_, .int .i64 n.buf, .slice n.dm.a n.dm.n n.dm.c, .slice n.fr.a n.fr.n n.fr.c, .bool n.inp, .bool n.all, .slice n.rg.a n.rg.n n.rg.c, .bool n.ord, .slice n.od.a n.od.n n.od.c, .slice n.pl.a n.pl.n n.pl.c] 26)).alloc (.cells #[.bool a.at_, .int .i64 a.buf, .slice a.dm.a a.dm.n a.dm.c, .slice a.fr.a a.fr.n a.fr.c, .bool a.inp, .bool a.all, .slice a.rg.a a.rg.n a.rg.c, .bool a.ord, .slice a.od.a a.od.n a.od.c, .slice a.pl.a a.pl.n a.pl.c] 26)).alloc (.cells #[.bool b.at_, .int .i64 b.buf, .slice b.dm.a b.dm.n b.dm.c, .slice b.fr.a b.fr.n b.fr.c, .bool b.inp, .bool b.all, .slice b.rg.a b.rg.n b.rg.c, .bool b.ord, .slice b.od.a b.od.n b.od.c, .slice b.pl.a b.pl.n b.pl.c] 26)) := by
  have h1 := ((bs_new w n).on (bel_new _ (.cells #[.bool a.at_, .int .i64 a.buf, .slice a.dm.a a.dm.n a.dm.c, .slice a.fr.a a.fr.n a.fr.c, .bool a.inp, .bool a.all, .slice a.rg.a a.rg.n a.rg.c, .bool a.ord, .slice a.od.a a.od.n a.od.c, .slice a.pl.a a.pl.n a.pl.c] 26))).on (bel_new _ (.cells #[.bool b.at_, .int .i64 b.buf, .slice b.dm.a b.dm.n b.dm.c, .slice b.fr.a b.fr.n b.fr.c, .bool b.inp, .bool b.all, .slice b.rg.a b.rg.n b.rg.c, .bool b.ord, .slice b.od.a b.od.n b.od.c, .slice b.pl.a b.pl.n b.pl.c] 26))
  have h2 := (bs_new (w.alloc (.cells #[.bool n.at_, .int .i64 n.buf, .slice n.dm.a n.dm.n n.dm.c, .slice n.fr.a n.fr.n n.fr.c, .bool n.inp, .bool n.all, .slice n.rg.a n.rg.n n.rg.c, .bool n.ord, .slice n.od.a n.od.n n.od.c, .slice n.pl.a n.pl.n n.pl.c] 26)) a).on (bel_new _ (.cells #[.bool b.at_, .int .i64 b.buf, .slice b.dm.a b.dm.n b.dm.c, .slice b.fr.a b.fr.n b.fr.c, .bool b.inp, .bool b.all, .slice b.rg.a b.rg.n b.rg.c, .bool b.ord, .slice b.od.a b.od.n b.od.c, .slice b.pl.a b.pl.n b.pl.c] 26))
  have h3 := bs_new ((w.alloc (.cells #[.bool n.at_, .int .i64 n.buf, .slice n.dm.a n.dm.n n.dm.c, .slice n.fr.a n.fr.n n.fr.c, .bool n.inp, .bool n.all, .slice n.rg.a n.rg.n n.rg.c, .bool n.ord, .slice n.od.a n.od.n n.od.c, .slice n.pl.a n.pl.n n.pl.c] 26)).alloc (.cells #[.bool a.at_, .int .i64 a.buf, .slice a.dm.a a.dm.n a.dm.c, .slice a.fr.a a.fr.n a.fr.c, .bool a.inp, .bool a.all, .slice a.rg.a a.rg.n a.rg.c, .bool a.ord, .slice a.od.a a.od.n a.od.c, .slice a.pl.a a.pl.n a.pl.c] 26)) b
  simp only [size_new] at h2 h3
  have hb := bel3 w (.cells #[.bool n.at_, .int .i64 n.buf, .slice n.dm.a n.dm.n n.dm.c, .slice n.fr.a n.fr.n n.fr.c, .bool n.inp, .bool n.all, .slice n.rg.a n.rg.n n.rg.c, .bool n.ord, .slice n.od.a n.od.n n.od.c, .slice n.pl.a n.pl.n n.pl.c] 26) (.cells #[.bool a.at_, .int .i64 a.buf, .slice a.dm.a a.dm.n a.dm.c, .slice a.fr.a a.fr.n a.fr.c, .bool a.inp, .bool a.all, .slice a.rg.a a.rg.n a.rg.c, .bool a.ord, .slice a.od.a a.od.n a.od.c, .slice a.pl.a a.pl.n a.pl.c] 26) (.cells #[.bool b.at_, .int .i64 b.buf, .slice b.dm.a b.dm.n b.dm.c, .slice b.fr.a b.fr.n b.fr.c, .bool b.inp, .bool b.all, .slice b.rg.a b.rg.n b.rg.c, .bool b.ord, .slice b.od.a b.od.n b.od.c, .slice b.pl.a b.pl.n b.pl.c] 26)
  refine ⟨fun p hp => ?_, hb⟩
  simp only [List.mem_cons, List.not_mem_nil, or_false] at hp
  rcases hp with rfl | rfl | rfl
  · exact ⟨h1, okn.on hb⟩
  · exact ⟨h2, oka.on hb⟩
  · exact ⟨h3, okb.on hb⟩

/-- The operations of a region of the program, as the print shows them. -/
def opsC7 : Array Oper := #[
  { dst := some 51, op := Op.load 26 (Operand.tmp 7), type := 26, pos := "law.go:54", after := #[], guard := none },
  { dst := some 52, op := Op.load 26 (Operand.tmp 8), type := 26, pos := "law.go:54", after := #[], guard := none },
  { dst := some 53, op := Op.call { callee := Callee.value (Operand.func 19), args := #[Operand.tmp 51, Operand.tmp 52], argTypes := #[26, 26] }, type := 4, pos := "law.go:54", after := #[{ on := 0, ground := Ground.data }, { on := 1, ground := Ground.data }], guard := none },
  { dst := some 54, op := Op.move (Operand.tmp 53), type := 4, pos := "law.go:54", after := #[{ on := 2, ground := Ground.data }, { on := 2, ground := Ground.chain }], guard := none },
  { dst := some 55, op := Op.fieldAddr 26 (Operand.tmp 9) 2, type := 0, pos := "law.go:54", after := #[{ on := 3, ground := Ground.guard }], guard := some (3, true) },
  { dst := some 56, op := Op.load 22 (Operand.tmp 55), type := 22, pos := "law.go:54", after := #[{ on := 4, ground := Ground.data }, { on := 3, ground := Ground.guard }], guard := some (3, true) },
  { dst := some 57, op := Op.call { callee := Callee.builtin Builtin.len, args := #[Operand.tmp 56], argTypes := #[22] }, type := 3, pos := "law.go:54", after := #[{ on := 5, ground := Ground.data }, { on := 3, ground := Ground.guard }], guard := some (3, true) },
  { dst := some 58, op := Op.fieldAddr 26 (Operand.tmp 10) 2, type := 0, pos := "law.go:54", after := #[{ on := 3, ground := Ground.guard }], guard := some (3, true) },
  { dst := some 59, op := Op.load 22 (Operand.tmp 58), type := 22, pos := "law.go:54", after := #[{ on := 7, ground := Ground.data }, { on := 3, ground := Ground.guard }], guard := some (3, true) },
  { dst := some 60, op := Op.call { callee := Callee.builtin Builtin.len, args := #[Operand.tmp 59], argTypes := #[22] }, type := 3, pos := "law.go:54", after := #[{ on := 8, ground := Ground.data }, { on := 3, ground := Ground.guard }], guard := some (3, true) },
  { dst := some 61, op := Op.binOp BinOp.eql 3 (Operand.tmp 57) (Operand.tmp 60) 3, type := 4, pos := "law.go:54", after := #[{ on := 6, ground := Ground.data }, { on := 9, ground := Ground.data }, { on := 3, ground := Ground.guard }], guard := some (3, true) },
  { dst := some 62, op := Op.pick (Operand.tmp 54) (Operand.tmp 61) (Operand.const (Value.bool false)), type := 4, pos := "law.go:54", after := #[{ on := 3, ground := Ground.data }, { on := 10, ground := Ground.data }], guard := none },
  { dst := some 63, op := Op.move (Operand.tmp 62), type := 4, pos := "law.go:54", after := #[{ on := 11, ground := Ground.data }, { on := 3, ground := Ground.chain }], guard := none },
  { dst := some 64, op := Op.fieldAddr 26 (Operand.tmp 9) 3, type := 0, pos := "law.go:54", after := #[{ on := 12, ground := Ground.guard }], guard := some (12, true) },
  { dst := some 65, op := Op.load 23 (Operand.tmp 64), type := 23, pos := "law.go:54", after := #[{ on := 13, ground := Ground.data }, { on := 12, ground := Ground.guard }], guard := some (12, true) },
  { dst := some 66, op := Op.fieldAddr 26 (Operand.tmp 10) 3, type := 0, pos := "law.go:54", after := #[{ on := 12, ground := Ground.guard }], guard := some (12, true) },
  { dst := some 67, op := Op.load 23 (Operand.tmp 66), type := 23, pos := "law.go:54", after := #[{ on := 15, ground := Ground.data }, { on := 12, ground := Ground.guard }], guard := some (12, true) },
  { dst := some 68, op := Op.call { callee := Callee.value (Operand.func 24), args := #[Operand.tmp 65, Operand.tmp 67], argTypes := #[23, 23] }, type := 4, pos := "law.go:54", after := #[{ on := 14, ground := Ground.data }, { on := 16, ground := Ground.data }, { on := 12, ground := Ground.chain }, { on := 12, ground := Ground.guard }], guard := some (12, true) },
  { dst := some 69, op := Op.pick (Operand.tmp 63) (Operand.tmp 68) (Operand.const (Value.bool false)), type := 4, pos := "law.go:54", after := #[{ on := 12, ground := Ground.data }, { on := 17, ground := Ground.data }], guard := none },
  { dst := some 70, op := Op.move (Operand.tmp 69), type := 4, pos := "law.go:54", after := #[{ on := 18, ground := Ground.data }, { on := 17, ground := Ground.chain }], guard := none },
  { dst := some 71, op := Op.fieldAddr 26 (Operand.tmp 9) 1, type := 0, pos := "law.go:54", after := #[{ on := 19, ground := Ground.guard }], guard := some (19, true) },
  { dst := some 72, op := Op.load 3 (Operand.tmp 71), type := 3, pos := "law.go:54", after := #[{ on := 20, ground := Ground.data }, { on := 19, ground := Ground.guard }], guard := some (19, true) },
  { dst := some 73, op := Op.fieldAddr 26 (Operand.tmp 10) 1, type := 0, pos := "law.go:54", after := #[{ on := 19, ground := Ground.guard }], guard := some (19, true) },
  { dst := some 74, op := Op.load 3 (Operand.tmp 73), type := 3, pos := "law.go:54", after := #[{ on := 22, ground := Ground.data }, { on := 19, ground := Ground.guard }], guard := some (19, true) },
  { dst := some 75, op := Op.binOp BinOp.eql 3 (Operand.tmp 72) (Operand.tmp 74) 3, type := 4, pos := "law.go:54", after := #[{ on := 21, ground := Ground.data }, { on := 23, ground := Ground.data }, { on := 19, ground := Ground.guard }], guard := some (19, true) },
  { dst := some 76, op := Op.pick (Operand.tmp 70) (Operand.tmp 75) (Operand.const (Value.bool false)), type := 4, pos := "law.go:54", after := #[{ on := 19, ground := Ground.data }, { on := 24, ground := Ground.data }], guard := none },
  { dst := some 77, op := Op.move (Operand.tmp 76), type := 4, pos := "law.go:54", after := #[{ on := 25, ground := Ground.data }, { on := 19, ground := Ground.chain }], guard := none },
  { dst := some 78, op := Op.fieldAddr 26 (Operand.tmp 9) 8, type := 0, pos := "law.go:54", after := #[{ on := 26, ground := Ground.guard }], guard := some (26, true) },
  { dst := some 79, op := Op.load 23 (Operand.tmp 78), type := 23, pos := "law.go:54", after := #[{ on := 27, ground := Ground.data }, { on := 26, ground := Ground.guard }], guard := some (26, true) },
  { dst := some 80, op := Op.fieldAddr 26 (Operand.tmp 10) 8, type := 0, pos := "law.go:54", after := #[{ on := 26, ground := Ground.guard }], guard := some (26, true) },
  { dst := some 81, op := Op.load 23 (Operand.tmp 80), type := 23, pos := "law.go:54", after := #[{ on := 29, ground := Ground.data }, { on := 26, ground := Ground.guard }], guard := some (26, true) },
  { dst := some 82, op := Op.call { callee := Callee.value (Operand.func 24), args := #[Operand.tmp 79, Operand.tmp 81], argTypes := #[23, 23] }, type := 4, pos := "law.go:54", after := #[{ on := 28, ground := Ground.data }, { on := 30, ground := Ground.data }, { on := 26, ground := Ground.chain }, { on := 26, ground := Ground.guard }], guard := some (26, true) },
  { dst := some 83, op := Op.pick (Operand.tmp 77) (Operand.tmp 82) (Operand.const (Value.bool false)), type := 4, pos := "law.go:54", after := #[{ on := 26, ground := Ground.data }, { on := 31, ground := Ground.data }], guard := none },
  { dst := some 84, op := Op.move (Operand.tmp 83), type := 4, pos := "law.go:54", after := #[{ on := 32, ground := Ground.data }, { on := 31, ground := Ground.chain }], guard := none },
  { dst := some 85, op := Op.load 26 (Operand.tmp 7), type := 26, pos := "law.go:54", after := #[{ on := 33, ground := Ground.guard }], guard := some (33, true) },
  { dst := some 86, op := Op.load 26 (Operand.tmp 3), type := 26, pos := "law.go:54", after := #[{ on := 33, ground := Ground.guard }], guard := some (33, true) },
  { dst := some 87, op := Op.load 26 (Operand.tmp 4), type := 26, pos := "law.go:54", after := #[{ on := 33, ground := Ground.guard }], guard := some (33, true) },
  { dst := some 88, op := Op.load 26 (Operand.tmp 5), type := 26, pos := "law.go:54", after := #[{ on := 33, ground := Ground.guard }], guard := some (33, true) },
  { dst := some 89, op := Op.call { callee := Callee.value (Operand.func 14), args := #[Operand.tmp 87, Operand.tmp 88], argTypes := #[26, 26] }, type := 26, pos := "law.go:54", after := #[{ on := 36, ground := Ground.data }, { on := 37, ground := Ground.data }, { on := 33, ground := Ground.chain }, { on := 33, ground := Ground.guard }], guard := some (33, true) },
  { dst := some 90, op := Op.call { callee := Callee.value (Operand.func 16), args := #[Operand.tmp 86, Operand.tmp 89], argTypes := #[26, 26] }, type := 26, pos := "law.go:54", after := #[{ on := 35, ground := Ground.data }, { on := 38, ground := Ground.data }, { on := 38, ground := Ground.chain }, { on := 33, ground := Ground.guard }], guard := some (33, true) },
  { dst := some 91, op := Op.call { callee := Callee.value (Operand.func 19), args := #[Operand.tmp 85, Operand.tmp 90], argTypes := #[26, 26] }, type := 4, pos := "law.go:54", after := #[{ on := 34, ground := Ground.data }, { on := 39, ground := Ground.data }, { on := 39, ground := Ground.chain }, { on := 33, ground := Ground.guard }], guard := some (33, true) },
  { dst := some 92, op := Op.pick (Operand.tmp 84) (Operand.tmp 91) (Operand.const (Value.bool false)), type := 4, pos := "law.go:54", after := #[{ on := 33, ground := Ground.data }, { on := 40, ground := Ground.data }], guard := none },
  { dst := some 93, op := Op.move (Operand.tmp 92), type := 4, pos := "law.go:54", after := #[{ on := 41, ground := Ground.data }, { on := 40, ground := Ground.chain }], guard := none },
  { dst := some 94, op := Op.call { callee := Callee.value (Operand.func 8), args := #[], argTypes := #[] }, type := 4, pos := "law.go:54", after := #[{ on := 42, ground := Ground.chain }, { on := 42, ground := Ground.guard }], guard := some (42, true) },
  { dst := some 95, op := Op.pick (Operand.tmp 93) (Operand.tmp 94) (Operand.const (Value.bool false)), type := 4, pos := "law.go:54", after := #[{ on := 42, ground := Ground.data }, { on := 43, ground := Ground.data }], guard := none },
  { dst := some 6, op := Op.assign (Operand.tmp 95), type := 4, pos := "law.go:54", after := #[{ on := 44, ground := Ground.data }, { on := 43, ground := Ground.chain }, { on := 0, ground := Ground.phase }, { on := 1, ground := Ground.phase }, { on := 2, ground := Ground.phase }, { on := 3, ground := Ground.phase }, { on := 4, ground := Ground.phase }, { on := 5, ground := Ground.phase }, { on := 6, ground := Ground.phase }, { on := 7, ground := Ground.phase }, { on := 8, ground := Ground.phase }, { on := 9, ground := Ground.phase }, { on := 10, ground := Ground.phase }, { on := 11, ground := Ground.phase }, { on := 12, ground := Ground.phase }, { on := 13, ground := Ground.phase }, { on := 14, ground := Ground.phase }, { on := 15, ground := Ground.phase }, { on := 16, ground := Ground.phase }, { on := 17, ground := Ground.phase }, { on := 18, ground := Ground.phase }, { on := 19, ground := Ground.phase }, { on := 20, ground := Ground.phase }, { on := 21, ground := Ground.phase }, { on := 22, ground := Ground.phase }, { on := 23, ground := Ground.phase }, { on := 24, ground := Ground.phase }, { on := 25, ground := Ground.phase }, { on := 26, ground := Ground.phase }, { on := 27, ground := Ground.phase }, { on := 28, ground := Ground.phase }, { on := 29, ground := Ground.phase }, { on := 30, ground := Ground.phase }, { on := 31, ground := Ground.phase }, { on := 32, ground := Ground.phase }, { on := 33, ground := Ground.phase }, { on := 34, ground := Ground.phase }, { on := 35, ground := Ground.phase }, { on := 36, ground := Ground.phase }, { on := 37, ground := Ground.phase }, { on := 38, ground := Ground.phase }, { on := 39, ground := Ground.phase }, { on := 40, ground := Ground.phase }, { on := 41, ground := Ground.phase }, { on := 42, ground := Ground.phase }, { on := 43, ground := Ground.phase }, { on := 44, ground := Ground.phase }], guard := none }]

set_option maxRecDepth 100000 in
set_option maxHeartbeats 16000000 in
theorem core (n a b : Sx) (w : World) (okn : n.Ok w) (oka : a.Ok w) (okb : b.Ok w) :
    Calls Try.prog 4 #[.agg #[.bool n.at_, .int .i64 n.buf, .slice n.dm.a n.dm.n n.dm.c, .slice n.fr.a n.fr.n n.fr.c, .bool n.inp, .bool n.all, .slice n.rg.a n.rg.n n.rg.c, .bool n.ord, .slice n.od.a n.od.n n.od.c, .slice n.pl.a n.pl.n n.pl.c], .agg #[.bool a.at_, .int .i64 a.buf, .slice a.dm.a a.dm.n a.dm.c, .slice a.fr.a a.fr.n a.fr.c, .bool a.inp, .bool a.all, .slice a.rg.a a.rg.n a.rg.c, .bool a.ord, .slice a.od.a a.od.n a.od.c, .slice a.pl.a a.pl.n a.pl.c], .agg #[.bool b.at_, .int .i64 b.buf, .slice b.dm.a b.dm.n b.dm.c, .slice b.fr.a b.fr.n b.fr.c, .bool b.inp, .bool b.all, .slice b.rg.a b.rg.n b.rg.c, .bool b.ord, .slice b.od.a b.od.n b.od.c, .slice b.pl.a b.pl.n b.pl.c]] w fun e w' => e = .returned (.bool true) ∧ Below w.heap.size w w' := by
  have HC := hid (ch_new w n a b okn oka okb)
  have CN : Hid (∀ u, Ch w [(w.heap.size, n), (w.heap.size + 1, a), (w.heap.size + 1 + 1, b)] u → Calls Try.prog 7 #[.agg #[.bool n.at_, .int .i64 n.buf, .slice n.dm.a n.dm.n n.dm.c, .slice n.fr.a n.fr.n n.fr.c, .bool n.inp, .bool n.all, .slice n.rg.a n.rg.n n.rg.c, .bool n.ord, .slice n.od.a n.od.n n.od.c, .slice n.pl.a n.pl.n n.pl.c]] u fun e w' => e = .returned (.bool (few n.q)) ∧ RowKit.Below u.heap.size u w') := fun u h => few_any n u (h.res (w.heap.size, n) (by simp)).2
  have CA : Hid (∀ u, Ch w [(w.heap.size, n), (w.heap.size + 1, a), (w.heap.size + 1 + 1, b)] u → Calls Try.prog 7 #[.agg #[.bool a.at_, .int .i64 a.buf, .slice a.dm.a a.dm.n a.dm.c, .slice a.fr.a a.fr.n a.fr.c, .bool a.inp, .bool a.all, .slice a.rg.a a.rg.n a.rg.c, .bool a.ord, .slice a.od.a a.od.n a.od.c, .slice a.pl.a a.pl.n a.pl.c]] u fun e w' => e = .returned (.bool (few a.q)) ∧ RowKit.Below u.heap.size u w') := fun u h => few_any a u (h.res (w.heap.size + 1, a) (by simp)).2
  have CB : Hid (∀ u, Ch w [(w.heap.size, n), (w.heap.size + 1, a), (w.heap.size + 1 + 1, b)] u → Calls Try.prog 7 #[.agg #[.bool b.at_, .int .i64 b.buf, .slice b.dm.a b.dm.n b.dm.c, .slice b.fr.a b.fr.n b.fr.c, .bool b.inp, .bool b.all, .slice b.rg.a b.rg.n b.rg.c, .bool b.ord, .slice b.od.a b.od.n b.od.c, .slice b.pl.a b.pl.n b.pl.c]] u fun e w' => e = .returned (.bool (few b.q)) ∧ RowKit.Below u.heap.size u w') := fun u h => few_any b u (h.res (w.heap.size + 1 + 1, b) (by simp)).2
  have CO : Hid (∀ u, Ch w [(w.heap.size, n), (w.heap.size + 1, a), (w.heap.size + 1 + 1, b)] u → Calls Try.prog 23 #[.slice a.pl.a a.pl.n a.pl.c] u fun e w' => ∃ b', e = .returned (.bool b') ∧ (b' = true → Onc a.pl.l) ∧ RowKit.Below u.heap.size u w') := fun u h => once_any _ _ _ _ u (h.res (w.heap.size + 1, a) (by simp)).2.pl
  have LN := hid (fun h => len_mono (few_len okn h) (show 60 ≤ 200 by omega))
  have LA := hid (fun h => len_mono (few_len oka h) (show 60 ≤ 200 by omega))
  have LB := hid (fun h => len_mono (few_len okb h) (show 60 ≤ 200 by omega))
  clear okn oka okb
  go_enter Try.func4, Try.ntmps4
  cases hfn : few n.q
  · rw [hfn] at CN
    go_wp2_with fail
    refine (CN.out _ HC.out).mono ?_
    rintro e w1 ⟨rfl, hb1⟩
    replace HC := hid (HC.out.on hb1)
    clear hb1
    go_wp2_with fail
    refine (awake_any _).mono ?_
    rintro e wz ⟨rfl, hbz⟩
    have HZ := hid (Below.on HC.out.bel hbz)
    clear hbz
    go_wp2
    go_ret
    exact ⟨rfl, HZ.out⟩
  rw [hfn] at CN
  go_wp2_with fail
  refine (CN.out _ HC.out).mono ?_
  rintro e w1 ⟨rfl, hb1⟩
  replace HC := hid (HC.out.on hb1)
  replace LN := hid (LN.out hfn)
  obtain ⟨aa, ab, ac, ad, ae, af, ag, ah, ai, aj⟩ := (HC.out.res (w.heap.size + 1, a) (by simp)).1.all
  clear hb1 hfn CN
  cases hfa : few a.q
  · rw [hfa] at CA
    go_wp2_with fail
    refine (CA.out _ HC.out).mono ?_
    rintro e w2 ⟨rfl, hb2⟩
    replace HC := hid (HC.out.on hb2)
    clear hb2 aa ab ac ad ae af ag ah ai aj
    go_wp2_with fail
    refine (awake_any _).mono ?_
    rintro e wz ⟨rfl, hbz⟩
    have HZ := hid (Below.on HC.out.bel hbz)
    clear hbz
    go_wp2
    go_ret
    exact ⟨rfl, HZ.out⟩
  rw [hfa] at CA
  go_wp2_with fail
  refine (CA.out _ HC.out).mono ?_
  rintro e w2 ⟨rfl, hb2⟩
  replace HC := hid (HC.out.on hb2)
  replace LA := hid (LA.out hfa)
  clear hb2 hfa CA aa ab ac ad ae af ag ah ai aj
  obtain ⟨ba, bb, bc, bd, be, bf, bg, bh, bi, bj⟩ := (HC.out.res (w.heap.size + 1 + 1, b) (by simp)).1.all
  cases hfb : few b.q
  · rw [hfb] at CB
    go_wp2_with fail
    refine (CB.out _ HC.out).mono ?_
    rintro e w3 ⟨rfl, hb3⟩
    replace HC := hid (HC.out.on hb3)
    clear hb3 ba bb bc bd be bf bg bh bi bj
    go_wp2_with fail
    refine (awake_any _).mono ?_
    rintro e wz ⟨rfl, hbz⟩
    have HZ := hid (Below.on HC.out.bel hbz)
    clear hbz
    go_wp2
    go_ret
    exact ⟨rfl, HZ.out⟩
  rw [hfb] at CB
  go_wp2_with fail
  refine (CB.out _ HC.out).mono ?_
  rintro e w3 ⟨rfl, hb3⟩
  replace HC := hid (HC.out.on hb3)
  replace LB := hid (LB.out hfb)
  clear hb3 hfb CB ba bb bc bd be bf bg bh bi bj
  obtain ⟨aa, ab, ac, ad, ae, af, ag, ah, ai, aj⟩ := (HC.out.res (w.heap.size + 1, a) (by simp)).1.all
  go_wp2_with fail
  refine (CO.out _ HC.out).mono ?_
  rintro e w4 ⟨bo, rfl, ho, hb4⟩
  replace HC := hid (HC.out.on hb4)
  have HO := hid ho
  clear hb4 ho aa ab ac ad ae af ag ah ai aj CO
  cases bo
  · clear HO
    go_wp2_with fail
    refine (awake_any _).mono ?_
    rintro e wz ⟨rfl, hbz⟩
    have HZ := hid (Below.on HC.out.bel hbz)
    clear hbz
    go_wp2
    go_ret
    exact ⟨rfl, HZ.out⟩
  have HON := hid (HO.out rfl)
  clear HO
  go_upto_if 29 with (fail)
  go_cut [0, 1, 2] (fun _ _ _ wc => Ch w [(w.heap.size, n), (w.heap.size + 1, a), (w.heap.size + 1 + 1, b)] wc)
  case first =>
    go_wp2_with fail
    go_meet
    exact HC.out
  clear HC
  have HC := hid hcut
  clear hcut
  go_upto_region 3 with fail
  go_cut [7] (fun v wc => ∃ (P : Nat) (r : Sx), v = .pointer (some ⟨P, 0, none⟩) ∧ Ch w ((P, r) :: [(w.heap.size, n), (w.heap.size + 1, a), (w.heap.size + 1 + 1, b)]) wc ∧ r.q = apl n.q (mrg a.q b.q))
  case first =>
    have HWS : Hid (wc.heap.size ≤ wc.drew.heap.size) := Nat.le_refl _
    refine wp_region_gate_drew (g := 6) (S := Ch w [(w.heap.size, n), (w.heap.size + 1, a), (w.heap.size + 1 + 1, b)]) (by kernel_rfl) ?hh (fun hHeld => ?_)
    case hh => exact (HC.out.drew)
    generalize wc.drew = W0 at hHeld HWS ⊢
    try dsimp only at hHeld
    refine wpAnyG_take (i := 0) (v := ?_) rfl (by kernel_rfl) (by kernel_rfl) (by kernel_rfl) (by kernel_rfl) (fun _ _ _ h => h) (Or.inl ⟨by kernel_rfl, ?hy0⟩) (by assumption) ?_
    case hy0 => (intro wI hSw; (try dsimp only at hSw); obtain ⟨q0a, q0b, q0c, q0d, q0e, q0f, q0g, q0h, q0i, q0j⟩ := (hSw.res (w.heap.size, n) (by simp)).1.all; obtain ⟨q1a, q1b, q1c, q1d, q1e, q1f, q1g, q1h, q1i, q1j⟩ := (hSw.res (w.heap.size + 1, a) (by simp)).1.all; obtain ⟨q2a, q2b, q2c, q2d, q2e, q2f, q2g, q2h, q2i, q2j⟩ := (hSw.res (w.heap.size + 1 + 1, b) (by simp)).1.all; go_simp; try with_reducible rfl)
    try simp only [Act.put, List.getElem_toArray, List.getElem_cons_zero, List.setIfInBounds_toArray, List.set_cons_zero, List.set_cons_succ]
    refine wpAnyG_take (i := 1) (v := ?_) rfl (by kernel_rfl) (by kernel_rfl) (by kernel_rfl) (by kernel_rfl) (fun _ _ _ h => h) (Or.inl ⟨by kernel_rfl, ?hy1⟩) (by assumption) ?_
    case hy1 => (intro wI hSw; (try dsimp only at hSw); obtain ⟨q0a, q0b, q0c, q0d, q0e, q0f, q0g, q0h, q0i, q0j⟩ := (hSw.res (w.heap.size, n) (by simp)).1.all; obtain ⟨q1a, q1b, q1c, q1d, q1e, q1f, q1g, q1h, q1i, q1j⟩ := (hSw.res (w.heap.size + 1, a) (by simp)).1.all; obtain ⟨q2a, q2b, q2c, q2d, q2e, q2f, q2g, q2h, q2i, q2j⟩ := (hSw.res (w.heap.size + 1 + 1, b) (by simp)).1.all; go_simp; try with_reducible rfl)
    try simp only [Act.put, List.getElem_toArray, List.getElem_cons_zero, List.getElem_cons_succ, List.setIfInBounds_toArray, List.set_cons_zero, List.set_cons_succ]
    refine wpAnyG_take (i := 2) (v := ?_) rfl (by kernel_rfl) (by kernel_rfl) (by kernel_rfl) (by kernel_rfl) (fun _ _ _ h => h) (Or.inl ⟨by kernel_rfl, ?hy2⟩) (by assumption) ?_
    case hy2 => (intro wI hSw; (try dsimp only at hSw); obtain ⟨q0a, q0b, q0c, q0d, q0e, q0f, q0g, q0h, q0i, q0j⟩ := (hSw.res (w.heap.size, n) (by simp)).1.all; obtain ⟨q1a, q1b, q1c, q1d, q1e, q1f, q1g, q1h, q1i, q1j⟩ := (hSw.res (w.heap.size + 1, a) (by simp)).1.all; obtain ⟨q2a, q2b, q2c, q2d, q2e, q2f, q2g, q2h, q2i, q2j⟩ := (hSw.res (w.heap.size + 1 + 1, b) (by simp)).1.all; go_simp; try with_reducible rfl)
    try simp only [Act.put, List.getElem_toArray, List.getElem_cons_zero, List.getElem_cons_succ, List.setIfInBounds_toArray, List.set_cons_zero, List.set_cons_succ]
    refine wpAnyG_ready (rs := [3, 5]) (by kernel_rfl) (by simp) ?_
    refine AllReadyG.cons rfl (fun K hK => ?_) ?_
    · go_simp
      go_wp2_with fail
      refine (merge_any a b _ (hHeld.res (w.heap.size + 1, a) (by simp)).2 (hHeld.res (w.heap.size + 1 + 1, b) (by simp)).2 (len_mono LA.out (by omega)) (len_mono LB.out (by omega))).mono ?_
      rintro e W3 ⟨m, rfl, okm, -, hqm, hb⟩
      have LM := hid (len_mrg (hHeld.res (w.heap.size + 1, a) (by simp)).2 (hHeld.res (w.heap.size + 1 + 1, b) (by simp)).2 okm hqm LA.out LB.out)
      have OM := hid okm
      have QM := hid hqm
      try replace HP := hid (HP.out.on hb)
      have hM := hHeld.on hb
      refine hK.out _ _ hM (fun _ => ?_)
      replace HWS := hid (Nat.le_trans HWS.out hb.size)
      clear hK K hHeld hb okm hqm
      have hHeld := hM
      clear hM
      try simp only [Act.put, List.getElem_toArray, List.getElem_cons_zero, List.getElem_cons_succ, List.setIfInBounds_toArray, List.set_cons_zero, List.set_cons_succ]
      refine wpAnyG_ready (rs := [4, 5]) (by kernel_rfl) (by simp) ?_
      refine AllReadyG.cons rfl (fun K hK => ?_) ?_
      · go_simp
        go_wp2_with fail
        refine (apply_any n m _ (hHeld.res (w.heap.size, n) (by simp)).2 OM.out (len_mono LN.out (by omega)) (len_mono LM.out (by omega))).mono ?_
        rintro e W4 ⟨rx, rfl, okr, hnr, hqr, hb⟩
        have OR := hid okr
        have QR := hid hqr
        try have FR := hid (off_new hnr HP.out.lt)
        try replace HP := hid (HP.out.on hb)
        have hM := hHeld.on hb
        refine hK.out _ _ hM (fun _ => ?_)
        replace HWS := hid (Nat.le_trans HWS.out hb.size)
        clear hK K hHeld hb okr hqr hnr
        have hHeld := hM
        clear hM
        try simp only [Act.put, List.getElem_toArray, List.getElem_cons_zero, List.getElem_cons_succ, List.setIfInBounds_toArray, List.set_cons_zero, List.set_cons_succ]
        refine wpAnyG_ready (rs := [5]) (by kernel_rfl) (by simp) ?_
        refine AllReadyG.cons rfl (fun K hK => ?_) AllReadyG.nil
        have hb := bel_new W4 (.cells #[.bool false, .int .i64 0, .slice none 0 0, .slice none 0 0, .bool false, .bool false, .slice none 0 0, .bool false, .slice none 0 0, .slice none 0 0] 26)
        have hM := hHeld.on hb
        have hk : Bs _ W4.heap.size sx0 := bs_new W4 sx0
        have hP0 : wc.heap.size ≤ W4.heap.size := HWS.out
        try have FR := hid (off_old OR.out (Nat.le_refl W4.heap.size))
        try replace OM := hid (OM.out.on hb)
        try replace OR := hid (OR.out.on hb)
        have hws2 := Nat.le_trans HWS.out hb.size
        go_simp
        refine hK.out _ _ hM (fun _ => ?_)
        clear hK K hHeld
        obtain ⟨PP, hPP⟩ : ∃ P, P = W4.heap.size := ⟨_, rfl⟩
        rw [← hPP] at hk hP0 ⊢
        try rw [← hPP] at FR
        have HP := hid hk
        have HPZ := hid hP0
        clear hPP hk hP0
        change Hid (Bs (W4.alloc (.cells #[.bool false, .int .i64 0, .slice none 0 0, .slice none 0 0, .bool false, .bool false, .slice none 0 0, .bool false, .slice none 0 0, .slice none 0 0] 26)) PP sx0) at HP
        generalize W4.alloc (.cells #[.bool false, .int .i64 0, .slice none 0 0, .slice none 0 0, .bool false, .bool false, .slice none 0 0, .bool false, .slice none 0 0, .slice none 0 0] 26) = W5 at *
        have hHeld := hM
        replace HWS := hid hws2
        clear hM hb hws2
        try simp only [Act.put, List.getElem_toArray, List.getElem_cons_zero, List.getElem_cons_succ, List.setIfInBounds_toArray, List.set_cons_zero, List.set_cons_succ]
        have hG := hHeld
        clear hHeld
        have hHeld : True := trivial
        refine wpAnyG_gateOp rfl (by kernel_rfl) (fun K hK => ?_)
        obtain ⟨za, zb, zc, zd, ze, zf, zg, zh, zi, zj⟩ := HP.out.all
        dsimp only [sx0, sl0] at za zb zc zd ze zf zg zh zi zj
        have fz := HP.out.fz
        have hQ := HC.out.push hG HPZ.out HP.out OR.out FR.out
        go_simp
        refine hK.out _ _ trivial (fun _ => ?_)
        clear hK K
        try simp only [Act.put, List.getElem_toArray, List.getElem_cons_zero, List.getElem_cons_succ, List.setIfInBounds_toArray, List.set_cons_zero, List.set_cons_succ]
        refine wpAnyH_done (by kernel_rfl) ?_ _
        go_wp2_with fail
        go_meet
        exact ⟨PP, rx, rfl, hQ, by rw [QR.out, QM.out]⟩
      refine AllReadyG.cons rfl (fun K hK => ?_) ?_
      · have hb := bel_new W3 (.cells #[.bool false, .int .i64 0, .slice none 0 0, .slice none 0 0, .bool false, .bool false, .slice none 0 0, .bool false, .slice none 0 0, .slice none 0 0] 26)
        have hM := hHeld.on hb
        have hk : Bs _ W3.heap.size sx0 := bs_new W3 sx0
        have hP0 : wc.heap.size ≤ W3.heap.size := HWS.out
        try have FR := hid (off_old OR.out (Nat.le_refl W3.heap.size))
        try replace OM := hid (OM.out.on hb)
        try replace OR := hid (OR.out.on hb)
        have hws2 := Nat.le_trans HWS.out hb.size
        go_simp
        refine hK.out _ _ hM (fun _ => ?_)
        clear hK K hHeld
        obtain ⟨PP, hPP⟩ : ∃ P, P = W3.heap.size := ⟨_, rfl⟩
        rw [← hPP] at hk hP0 ⊢
        try rw [← hPP] at FR
        have HP := hid hk
        have HPZ := hid hP0
        clear hPP hk hP0
        change Hid (Bs (W3.alloc (.cells #[.bool false, .int .i64 0, .slice none 0 0, .slice none 0 0, .bool false, .bool false, .slice none 0 0, .bool false, .slice none 0 0, .slice none 0 0] 26)) PP sx0) at HP
        generalize W3.alloc (.cells #[.bool false, .int .i64 0, .slice none 0 0, .slice none 0 0, .bool false, .bool false, .slice none 0 0, .bool false, .slice none 0 0, .slice none 0 0] 26) = W5 at *
        have hHeld := hM
        replace HWS := hid hws2
        clear hM hb hws2
        try simp only [Act.put, List.getElem_toArray, List.getElem_cons_zero, List.getElem_cons_succ, List.setIfInBounds_toArray, List.set_cons_zero, List.set_cons_succ]
        refine wpAnyG_ready (rs := [4]) (by kernel_rfl) (by simp) ?_
        refine AllReadyG.cons rfl (fun K hK => ?_) AllReadyG.nil
        go_simp
        go_wp2_with fail
        refine (apply_any n m _ (hHeld.res (w.heap.size, n) (by simp)).2 OM.out (len_mono LN.out (by omega)) (len_mono LM.out (by omega))).mono ?_
        rintro e W4 ⟨rx, rfl, okr, hnr, hqr, hb⟩
        have OR := hid okr
        have QR := hid hqr
        try have FR := hid (off_new hnr HP.out.lt)
        try replace HP := hid (HP.out.on hb)
        have hM := hHeld.on hb
        refine hK.out _ _ hM (fun _ => ?_)
        replace HWS := hid (Nat.le_trans HWS.out hb.size)
        clear hK K hHeld hb okr hqr hnr
        have hHeld := hM
        clear hM
        try simp only [Act.put, List.getElem_toArray, List.getElem_cons_zero, List.getElem_cons_succ, List.setIfInBounds_toArray, List.set_cons_zero, List.set_cons_succ]
        have hG := hHeld
        clear hHeld
        have hHeld : True := trivial
        refine wpAnyG_gateOp rfl (by kernel_rfl) (fun K hK => ?_)
        obtain ⟨za, zb, zc, zd, ze, zf, zg, zh, zi, zj⟩ := HP.out.all
        dsimp only [sx0, sl0] at za zb zc zd ze zf zg zh zi zj
        have fz := HP.out.fz
        have hQ := HC.out.push hG HPZ.out HP.out OR.out FR.out
        go_simp
        refine hK.out _ _ trivial (fun _ => ?_)
        clear hK K
        try simp only [Act.put, List.getElem_toArray, List.getElem_cons_zero, List.getElem_cons_succ, List.setIfInBounds_toArray, List.set_cons_zero, List.set_cons_succ]
        refine wpAnyH_done (by kernel_rfl) ?_ _
        go_wp2_with fail
        go_meet
        exact ⟨PP, rx, rfl, hQ, by rw [QR.out, QM.out]⟩
      exact AllReadyG.nil
    refine AllReadyG.cons rfl (fun K hK => ?_) ?_
    · have hb := bel_new W0 (.cells #[.bool false, .int .i64 0, .slice none 0 0, .slice none 0 0, .bool false, .bool false, .slice none 0 0, .bool false, .slice none 0 0, .slice none 0 0] 26)
      have hM := hHeld.on hb
      have hk : Bs _ W0.heap.size sx0 := bs_new W0 sx0
      have hP0 : wc.heap.size ≤ W0.heap.size := HWS.out
      try have FR := hid (off_old OR.out (Nat.le_refl W0.heap.size))
      try replace OM := hid (OM.out.on hb)
      try replace OR := hid (OR.out.on hb)
      have hws2 := Nat.le_trans HWS.out hb.size
      go_simp
      refine hK.out _ _ hM (fun _ => ?_)
      clear hK K hHeld
      obtain ⟨PP, hPP⟩ : ∃ P, P = W0.heap.size := ⟨_, rfl⟩
      rw [← hPP] at hk hP0 ⊢
      try rw [← hPP] at FR
      have HP := hid hk
      have HPZ := hid hP0
      clear hPP hk hP0
      change Hid (Bs (W0.alloc (.cells #[.bool false, .int .i64 0, .slice none 0 0, .slice none 0 0, .bool false, .bool false, .slice none 0 0, .bool false, .slice none 0 0, .slice none 0 0] 26)) PP sx0) at HP
      generalize W0.alloc (.cells #[.bool false, .int .i64 0, .slice none 0 0, .slice none 0 0, .bool false, .bool false, .slice none 0 0, .bool false, .slice none 0 0, .slice none 0 0] 26) = W5 at *
      have hHeld := hM
      replace HWS := hid hws2
      clear hM hb hws2
      try simp only [Act.put, List.getElem_toArray, List.getElem_cons_zero, List.getElem_cons_succ, List.setIfInBounds_toArray, List.set_cons_zero, List.set_cons_succ]
      refine wpAnyG_ready (rs := [3]) (by kernel_rfl) (by simp) ?_
      refine AllReadyG.cons rfl (fun K hK => ?_) AllReadyG.nil
      go_simp
      go_wp2_with fail
      refine (merge_any a b _ (hHeld.res (w.heap.size + 1, a) (by simp)).2 (hHeld.res (w.heap.size + 1 + 1, b) (by simp)).2 (len_mono LA.out (by omega)) (len_mono LB.out (by omega))).mono ?_
      rintro e W3 ⟨m, rfl, okm, -, hqm, hb⟩
      have LM := hid (len_mrg (hHeld.res (w.heap.size + 1, a) (by simp)).2 (hHeld.res (w.heap.size + 1 + 1, b) (by simp)).2 okm hqm LA.out LB.out)
      have OM := hid okm
      have QM := hid hqm
      try replace HP := hid (HP.out.on hb)
      have hM := hHeld.on hb
      refine hK.out _ _ hM (fun _ => ?_)
      replace HWS := hid (Nat.le_trans HWS.out hb.size)
      clear hK K hHeld hb okm hqm
      have hHeld := hM
      clear hM
      try simp only [Act.put, List.getElem_toArray, List.getElem_cons_zero, List.getElem_cons_succ, List.setIfInBounds_toArray, List.set_cons_zero, List.set_cons_succ]
      refine wpAnyG_ready (rs := [4]) (by kernel_rfl) (by simp) ?_
      refine AllReadyG.cons rfl (fun K hK => ?_) AllReadyG.nil
      go_simp
      go_wp2_with fail
      refine (apply_any n m _ (hHeld.res (w.heap.size, n) (by simp)).2 OM.out (len_mono LN.out (by omega)) (len_mono LM.out (by omega))).mono ?_
      rintro e W4 ⟨rx, rfl, okr, hnr, hqr, hb⟩
      have OR := hid okr
      have QR := hid hqr
      try have FR := hid (off_new hnr HP.out.lt)
      try replace HP := hid (HP.out.on hb)
      have hM := hHeld.on hb
      refine hK.out _ _ hM (fun _ => ?_)
      replace HWS := hid (Nat.le_trans HWS.out hb.size)
      clear hK K hHeld hb okr hqr hnr
      have hHeld := hM
      clear hM
      try simp only [Act.put, List.getElem_toArray, List.getElem_cons_zero, List.getElem_cons_succ, List.setIfInBounds_toArray, List.set_cons_zero, List.set_cons_succ]
      have hG := hHeld
      clear hHeld
      have hHeld : True := trivial
      refine wpAnyG_gateOp rfl (by kernel_rfl) (fun K hK => ?_)
      obtain ⟨za, zb, zc, zd, ze, zf, zg, zh, zi, zj⟩ := HP.out.all
      dsimp only [sx0, sl0] at za zb zc zd ze zf zg zh zi zj
      have fz := HP.out.fz
      have hQ := HC.out.push hG HPZ.out HP.out OR.out FR.out
      go_simp
      refine hK.out _ _ trivial (fun _ => ?_)
      clear hK K
      try simp only [Act.put, List.getElem_toArray, List.getElem_cons_zero, List.getElem_cons_succ, List.setIfInBounds_toArray, List.set_cons_zero, List.set_cons_succ]
      refine wpAnyH_done (by kernel_rfl) ?_ _
      go_wp2_with fail
      go_meet
      exact ⟨PP, rx, rfl, hQ, by rw [QR.out, QM.out]⟩
    exact AllReadyG.nil
  obtain ⟨P7, rx, rfl, hch, hqrx⟩ := hcut
  clear HC
  have HC := hid hch
  have Qrx := hid hqrx
  clear hch hqrx
  go_upto_region 4 with fail
  go_cut [8] (fun v wc => ∃ (P : Nat) (r : Sx), v = .pointer (some ⟨P, 0, none⟩) ∧ Ch w ((P, r) :: [(P7, rx), (w.heap.size, n), (w.heap.size + 1, a), (w.heap.size + 1 + 1, b)]) wc ∧ r.q = apl (apl n.q a.q) b.q)
  case first =>
    have HWS : Hid (wc.heap.size ≤ wc.drew.heap.size) := Nat.le_refl _
    refine wp_region_gate_drew (g := 6) (S := Ch w [(P7, rx), (w.heap.size, n), (w.heap.size + 1, a), (w.heap.size + 1 + 1, b)]) (by kernel_rfl) ?hh (fun hHeld => ?_)
    case hh => exact (HC.out.drew)
    generalize wc.drew = W0 at hHeld HWS ⊢
    try dsimp only at hHeld
    refine wpAnyG_take (i := 0) (v := ?_) rfl (by kernel_rfl) (by kernel_rfl) (by kernel_rfl) (by kernel_rfl) (fun _ _ _ h => h) (Or.inl ⟨by kernel_rfl, ?hy0⟩) (by assumption) ?_
    case hy0 => (intro wI hSw; (try dsimp only at hSw); obtain ⟨q0a, q0b, q0c, q0d, q0e, q0f, q0g, q0h, q0i, q0j⟩ := (hSw.res (w.heap.size, n) (by simp)).1.all; obtain ⟨q1a, q1b, q1c, q1d, q1e, q1f, q1g, q1h, q1i, q1j⟩ := (hSw.res (w.heap.size + 1, a) (by simp)).1.all; obtain ⟨q2a, q2b, q2c, q2d, q2e, q2f, q2g, q2h, q2i, q2j⟩ := (hSw.res (w.heap.size + 1 + 1, b) (by simp)).1.all; go_simp; try with_reducible rfl)
    try simp only [Act.put, List.getElem_toArray, List.getElem_cons_zero, List.setIfInBounds_toArray, List.set_cons_zero, List.set_cons_succ]
    refine wpAnyG_take (i := 1) (v := ?_) rfl (by kernel_rfl) (by kernel_rfl) (by kernel_rfl) (by kernel_rfl) (fun _ _ _ h => h) (Or.inl ⟨by kernel_rfl, ?hy1⟩) (by assumption) ?_
    case hy1 => (intro wI hSw; (try dsimp only at hSw); obtain ⟨q0a, q0b, q0c, q0d, q0e, q0f, q0g, q0h, q0i, q0j⟩ := (hSw.res (w.heap.size, n) (by simp)).1.all; obtain ⟨q1a, q1b, q1c, q1d, q1e, q1f, q1g, q1h, q1i, q1j⟩ := (hSw.res (w.heap.size + 1, a) (by simp)).1.all; obtain ⟨q2a, q2b, q2c, q2d, q2e, q2f, q2g, q2h, q2i, q2j⟩ := (hSw.res (w.heap.size + 1 + 1, b) (by simp)).1.all; go_simp; try with_reducible rfl)
    try simp only [Act.put, List.getElem_toArray, List.getElem_cons_zero, List.getElem_cons_succ, List.setIfInBounds_toArray, List.set_cons_zero, List.set_cons_succ]
    refine wpAnyG_take (i := 3) (v := ?_) rfl (by kernel_rfl) (by kernel_rfl) (by kernel_rfl) (by kernel_rfl) (fun _ _ _ h => h) (Or.inl ⟨by kernel_rfl, ?hy3⟩) (by assumption) ?_
    case hy3 => (intro wI hSw; (try dsimp only at hSw); obtain ⟨q0a, q0b, q0c, q0d, q0e, q0f, q0g, q0h, q0i, q0j⟩ := (hSw.res (w.heap.size, n) (by simp)).1.all; obtain ⟨q1a, q1b, q1c, q1d, q1e, q1f, q1g, q1h, q1i, q1j⟩ := (hSw.res (w.heap.size + 1, a) (by simp)).1.all; obtain ⟨q2a, q2b, q2c, q2d, q2e, q2f, q2g, q2h, q2i, q2j⟩ := (hSw.res (w.heap.size + 1 + 1, b) (by simp)).1.all; go_simp; try with_reducible rfl)
    try simp only [Act.put, List.getElem_toArray, List.getElem_cons_zero, List.getElem_cons_succ, List.setIfInBounds_toArray, List.set_cons_zero, List.set_cons_succ]
    refine wpAnyG_ready (rs := [2, 5]) (by kernel_rfl) (by simp) ?_
    refine AllReadyG.cons rfl (fun K hK => ?_) ?_
    · go_simp
      go_wp2_with fail
      refine (apply_any n a _ (hHeld.res (w.heap.size, n) (by simp)).2 (hHeld.res (w.heap.size + 1, a) (by simp)).2 (len_mono LN.out (by omega)) (len_mono LA.out (by omega))).mono ?_
      rintro e W2 ⟨m, rfl, okm, -, hqm, hb⟩
      have LM := hid (len_apl (hHeld.res (w.heap.size, n) (by simp)).2 (hHeld.res (w.heap.size + 1, a) (by simp)).2 okm hqm LN.out LA.out)
      have OM := hid okm
      have QM := hid hqm
      try replace HP := hid (HP.out.on hb)
      have hM := hHeld.on hb
      refine hK.out _ _ hM (fun _ => ?_)
      replace HWS := hid (Nat.le_trans HWS.out hb.size)
      clear hK K hHeld hb okm hqm
      have hHeld := hM
      clear hM
      try simp only [Act.put, List.getElem_toArray, List.getElem_cons_zero, List.getElem_cons_succ, List.setIfInBounds_toArray, List.set_cons_zero, List.set_cons_succ]
      refine wpAnyG_ready (rs := [4, 5]) (by kernel_rfl) (by simp) ?_
      refine AllReadyG.cons rfl (fun K hK => ?_) ?_
      · go_simp
        go_wp2_with fail
        refine (apply_any m b _ OM.out (hHeld.res (w.heap.size + 1 + 1, b) (by simp)).2 (len_mono LM.out (by omega)) (len_mono LB.out (by omega))).mono ?_
        rintro e W4 ⟨ry, rfl, okr, hnr, hqr, hb⟩
        have OR := hid okr
        have QR := hid hqr
        try have FR := hid (off_new hnr HP.out.lt)
        try replace HP := hid (HP.out.on hb)
        have hM := hHeld.on hb
        refine hK.out _ _ hM (fun _ => ?_)
        replace HWS := hid (Nat.le_trans HWS.out hb.size)
        clear hK K hHeld hb okr hqr hnr
        have hHeld := hM
        clear hM
        try simp only [Act.put, List.getElem_toArray, List.getElem_cons_zero, List.getElem_cons_succ, List.setIfInBounds_toArray, List.set_cons_zero, List.set_cons_succ]
        refine wpAnyG_ready (rs := [5]) (by kernel_rfl) (by simp) ?_
        refine AllReadyG.cons rfl (fun K hK => ?_) AllReadyG.nil
        have hb := bel_new W4 (.cells #[.bool false, .int .i64 0, .slice none 0 0, .slice none 0 0, .bool false, .bool false, .slice none 0 0, .bool false, .slice none 0 0, .slice none 0 0] 26)
        have hM := hHeld.on hb
        have hk : Bs _ W4.heap.size sx0 := bs_new W4 sx0
        have hP0 : wc.heap.size ≤ W4.heap.size := HWS.out
        try have FR := hid (off_old OR.out (Nat.le_refl W4.heap.size))
        try replace OM := hid (OM.out.on hb)
        try replace OR := hid (OR.out.on hb)
        have hws2 := Nat.le_trans HWS.out hb.size
        go_simp
        refine hK.out _ _ hM (fun _ => ?_)
        clear hK K hHeld
        obtain ⟨PP, hPP⟩ : ∃ P, P = W4.heap.size := ⟨_, rfl⟩
        rw [← hPP] at hk hP0 ⊢
        try rw [← hPP] at FR
        have HP := hid hk
        have HPZ := hid hP0
        clear hPP hk hP0
        change Hid (Bs (W4.alloc (.cells #[.bool false, .int .i64 0, .slice none 0 0, .slice none 0 0, .bool false, .bool false, .slice none 0 0, .bool false, .slice none 0 0, .slice none 0 0] 26)) PP sx0) at HP
        generalize W4.alloc (.cells #[.bool false, .int .i64 0, .slice none 0 0, .slice none 0 0, .bool false, .bool false, .slice none 0 0, .bool false, .slice none 0 0, .slice none 0 0] 26) = W5 at *
        have hHeld := hM
        replace HWS := hid hws2
        clear hM hb hws2
        try simp only [Act.put, List.getElem_toArray, List.getElem_cons_zero, List.getElem_cons_succ, List.setIfInBounds_toArray, List.set_cons_zero, List.set_cons_succ]
        have hG := hHeld
        clear hHeld
        have hHeld : True := trivial
        refine wpAnyG_gateOp rfl (by kernel_rfl) (fun K hK => ?_)
        obtain ⟨za, zb, zc, zd, ze, zf, zg, zh, zi, zj⟩ := HP.out.all
        dsimp only [sx0, sl0] at za zb zc zd ze zf zg zh zi zj
        have fz := HP.out.fz
        have hQ := HC.out.push hG HPZ.out HP.out OR.out FR.out
        go_simp
        refine hK.out _ _ trivial (fun _ => ?_)
        clear hK K
        try simp only [Act.put, List.getElem_toArray, List.getElem_cons_zero, List.getElem_cons_succ, List.setIfInBounds_toArray, List.set_cons_zero, List.set_cons_succ]
        refine wpAnyH_done (by kernel_rfl) ?_ _
        go_wp2_with fail
        go_meet
        exact ⟨PP, ry, rfl, hQ, by rw [QR.out, QM.out]⟩
      refine AllReadyG.cons rfl (fun K hK => ?_) ?_
      · have hb := bel_new W2 (.cells #[.bool false, .int .i64 0, .slice none 0 0, .slice none 0 0, .bool false, .bool false, .slice none 0 0, .bool false, .slice none 0 0, .slice none 0 0] 26)
        have hM := hHeld.on hb
        have hk : Bs _ W2.heap.size sx0 := bs_new W2 sx0
        have hP0 : wc.heap.size ≤ W2.heap.size := HWS.out
        try have FR := hid (off_old OR.out (Nat.le_refl W2.heap.size))
        try replace OM := hid (OM.out.on hb)
        try replace OR := hid (OR.out.on hb)
        have hws2 := Nat.le_trans HWS.out hb.size
        go_simp
        refine hK.out _ _ hM (fun _ => ?_)
        clear hK K hHeld
        obtain ⟨PP, hPP⟩ : ∃ P, P = W2.heap.size := ⟨_, rfl⟩
        rw [← hPP] at hk hP0 ⊢
        try rw [← hPP] at FR
        have HP := hid hk
        have HPZ := hid hP0
        clear hPP hk hP0
        change Hid (Bs (W2.alloc (.cells #[.bool false, .int .i64 0, .slice none 0 0, .slice none 0 0, .bool false, .bool false, .slice none 0 0, .bool false, .slice none 0 0, .slice none 0 0] 26)) PP sx0) at HP
        generalize W2.alloc (.cells #[.bool false, .int .i64 0, .slice none 0 0, .slice none 0 0, .bool false, .bool false, .slice none 0 0, .bool false, .slice none 0 0, .slice none 0 0] 26) = W5 at *
        have hHeld := hM
        replace HWS := hid hws2
        clear hM hb hws2
        try simp only [Act.put, List.getElem_toArray, List.getElem_cons_zero, List.getElem_cons_succ, List.setIfInBounds_toArray, List.set_cons_zero, List.set_cons_succ]
        refine wpAnyG_ready (rs := [4]) (by kernel_rfl) (by simp) ?_
        refine AllReadyG.cons rfl (fun K hK => ?_) AllReadyG.nil
        go_simp
        go_wp2_with fail
        refine (apply_any m b _ OM.out (hHeld.res (w.heap.size + 1 + 1, b) (by simp)).2 (len_mono LM.out (by omega)) (len_mono LB.out (by omega))).mono ?_
        rintro e W4 ⟨ry, rfl, okr, hnr, hqr, hb⟩
        have OR := hid okr
        have QR := hid hqr
        try have FR := hid (off_new hnr HP.out.lt)
        try replace HP := hid (HP.out.on hb)
        have hM := hHeld.on hb
        refine hK.out _ _ hM (fun _ => ?_)
        replace HWS := hid (Nat.le_trans HWS.out hb.size)
        clear hK K hHeld hb okr hqr hnr
        have hHeld := hM
        clear hM
        try simp only [Act.put, List.getElem_toArray, List.getElem_cons_zero, List.getElem_cons_succ, List.setIfInBounds_toArray, List.set_cons_zero, List.set_cons_succ]
        have hG := hHeld
        clear hHeld
        have hHeld : True := trivial
        refine wpAnyG_gateOp rfl (by kernel_rfl) (fun K hK => ?_)
        obtain ⟨za, zb, zc, zd, ze, zf, zg, zh, zi, zj⟩ := HP.out.all
        dsimp only [sx0, sl0] at za zb zc zd ze zf zg zh zi zj
        have fz := HP.out.fz
        have hQ := HC.out.push hG HPZ.out HP.out OR.out FR.out
        go_simp
        refine hK.out _ _ trivial (fun _ => ?_)
        clear hK K
        try simp only [Act.put, List.getElem_toArray, List.getElem_cons_zero, List.getElem_cons_succ, List.setIfInBounds_toArray, List.set_cons_zero, List.set_cons_succ]
        refine wpAnyH_done (by kernel_rfl) ?_ _
        go_wp2_with fail
        go_meet
        exact ⟨PP, ry, rfl, hQ, by rw [QR.out, QM.out]⟩
      exact AllReadyG.nil
    refine AllReadyG.cons rfl (fun K hK => ?_) ?_
    · have hb := bel_new W0 (.cells #[.bool false, .int .i64 0, .slice none 0 0, .slice none 0 0, .bool false, .bool false, .slice none 0 0, .bool false, .slice none 0 0, .slice none 0 0] 26)
      have hM := hHeld.on hb
      have hk : Bs _ W0.heap.size sx0 := bs_new W0 sx0
      have hP0 : wc.heap.size ≤ W0.heap.size := HWS.out
      try have FR := hid (off_old OR.out (Nat.le_refl W0.heap.size))
      try replace OM := hid (OM.out.on hb)
      try replace OR := hid (OR.out.on hb)
      have hws2 := Nat.le_trans HWS.out hb.size
      go_simp
      refine hK.out _ _ hM (fun _ => ?_)
      clear hK K hHeld
      obtain ⟨PP, hPP⟩ : ∃ P, P = W0.heap.size := ⟨_, rfl⟩
      rw [← hPP] at hk hP0 ⊢
      try rw [← hPP] at FR
      have HP := hid hk
      have HPZ := hid hP0
      clear hPP hk hP0
      change Hid (Bs (W0.alloc (.cells #[.bool false, .int .i64 0, .slice none 0 0, .slice none 0 0, .bool false, .bool false, .slice none 0 0, .bool false, .slice none 0 0, .slice none 0 0] 26)) PP sx0) at HP
      generalize W0.alloc (.cells #[.bool false, .int .i64 0, .slice none 0 0, .slice none 0 0, .bool false, .bool false, .slice none 0 0, .bool false, .slice none 0 0, .slice none 0 0] 26) = W5 at *
      have hHeld := hM
      replace HWS := hid hws2
      clear hM hb hws2
      try simp only [Act.put, List.getElem_toArray, List.getElem_cons_zero, List.getElem_cons_succ, List.setIfInBounds_toArray, List.set_cons_zero, List.set_cons_succ]
      refine wpAnyG_ready (rs := [2]) (by kernel_rfl) (by simp) ?_
      refine AllReadyG.cons rfl (fun K hK => ?_) AllReadyG.nil
      go_simp
      go_wp2_with fail
      refine (apply_any n a _ (hHeld.res (w.heap.size, n) (by simp)).2 (hHeld.res (w.heap.size + 1, a) (by simp)).2 (len_mono LN.out (by omega)) (len_mono LA.out (by omega))).mono ?_
      rintro e W2 ⟨m, rfl, okm, -, hqm, hb⟩
      have LM := hid (len_apl (hHeld.res (w.heap.size, n) (by simp)).2 (hHeld.res (w.heap.size + 1, a) (by simp)).2 okm hqm LN.out LA.out)
      have OM := hid okm
      have QM := hid hqm
      try replace HP := hid (HP.out.on hb)
      have hM := hHeld.on hb
      refine hK.out _ _ hM (fun _ => ?_)
      replace HWS := hid (Nat.le_trans HWS.out hb.size)
      clear hK K hHeld hb okm hqm
      have hHeld := hM
      clear hM
      try simp only [Act.put, List.getElem_toArray, List.getElem_cons_zero, List.getElem_cons_succ, List.setIfInBounds_toArray, List.set_cons_zero, List.set_cons_succ]
      refine wpAnyG_ready (rs := [4]) (by kernel_rfl) (by simp) ?_
      refine AllReadyG.cons rfl (fun K hK => ?_) AllReadyG.nil
      go_simp
      go_wp2_with fail
      refine (apply_any m b _ OM.out (hHeld.res (w.heap.size + 1 + 1, b) (by simp)).2 (len_mono LM.out (by omega)) (len_mono LB.out (by omega))).mono ?_
      rintro e W4 ⟨ry, rfl, okr, hnr, hqr, hb⟩
      have OR := hid okr
      have QR := hid hqr
      try have FR := hid (off_new hnr HP.out.lt)
      try replace HP := hid (HP.out.on hb)
      have hM := hHeld.on hb
      refine hK.out _ _ hM (fun _ => ?_)
      replace HWS := hid (Nat.le_trans HWS.out hb.size)
      clear hK K hHeld hb okr hqr hnr
      have hHeld := hM
      clear hM
      try simp only [Act.put, List.getElem_toArray, List.getElem_cons_zero, List.getElem_cons_succ, List.setIfInBounds_toArray, List.set_cons_zero, List.set_cons_succ]
      have hG := hHeld
      clear hHeld
      have hHeld : True := trivial
      refine wpAnyG_gateOp rfl (by kernel_rfl) (fun K hK => ?_)
      obtain ⟨za, zb, zc, zd, ze, zf, zg, zh, zi, zj⟩ := HP.out.all
      dsimp only [sx0, sl0] at za zb zc zd ze zf zg zh zi zj
      have fz := HP.out.fz
      have hQ := HC.out.push hG HPZ.out HP.out OR.out FR.out
      go_simp
      refine hK.out _ _ trivial (fun _ => ?_)
      clear hK K
      try simp only [Act.put, List.getElem_toArray, List.getElem_cons_zero, List.getElem_cons_succ, List.setIfInBounds_toArray, List.set_cons_zero, List.set_cons_succ]
      refine wpAnyH_done (by kernel_rfl) ?_ _
      go_wp2_with fail
      go_meet
      exact ⟨PP, ry, rfl, hQ, by rw [QR.out, QM.out]⟩
    exact AllReadyG.nil
  obtain ⟨P8, ry, rfl, hch, hqry⟩ := hcut
  clear HC
  have HC := hid hch
  have Qry := hid hqry
  clear hch hqry
  go_upto_region 5 with fail
  go_cut [9] (fun v wc => ∃ (P : Nat) (r : Sx), v = .pointer (some ⟨P, 0, none⟩) ∧ Ch w ((P, r) :: [(P8, ry), (P7, rx), (w.heap.size, n), (w.heap.size + 1, a), (w.heap.size + 1 + 1, b)]) wc ∧ r.q = mrg (mrg n.q a.q) b.q)
  case first =>
    have HWS : Hid (wc.heap.size ≤ wc.drew.heap.size) := Nat.le_refl _
    refine wp_region_gate_drew (g := 6) (S := Ch w [(P8, ry), (P7, rx), (w.heap.size, n), (w.heap.size + 1, a), (w.heap.size + 1 + 1, b)]) (by kernel_rfl) ?hh (fun hHeld => ?_)
    case hh => exact (HC.out.drew)
    generalize wc.drew = W0 at hHeld HWS ⊢
    try dsimp only at hHeld
    refine wpAnyG_take (i := 0) (v := ?_) rfl (by kernel_rfl) (by kernel_rfl) (by kernel_rfl) (by kernel_rfl) (fun _ _ _ h => h) (Or.inl ⟨by kernel_rfl, ?hy0⟩) (by assumption) ?_
    case hy0 => (intro wI hSw; (try dsimp only at hSw); obtain ⟨q0a, q0b, q0c, q0d, q0e, q0f, q0g, q0h, q0i, q0j⟩ := (hSw.res (w.heap.size, n) (by simp)).1.all; obtain ⟨q1a, q1b, q1c, q1d, q1e, q1f, q1g, q1h, q1i, q1j⟩ := (hSw.res (w.heap.size + 1, a) (by simp)).1.all; obtain ⟨q2a, q2b, q2c, q2d, q2e, q2f, q2g, q2h, q2i, q2j⟩ := (hSw.res (w.heap.size + 1 + 1, b) (by simp)).1.all; go_simp; try with_reducible rfl)
    try simp only [Act.put, List.getElem_toArray, List.getElem_cons_zero, List.setIfInBounds_toArray, List.set_cons_zero, List.set_cons_succ]
    refine wpAnyG_take (i := 1) (v := ?_) rfl (by kernel_rfl) (by kernel_rfl) (by kernel_rfl) (by kernel_rfl) (fun _ _ _ h => h) (Or.inl ⟨by kernel_rfl, ?hy1⟩) (by assumption) ?_
    case hy1 => (intro wI hSw; (try dsimp only at hSw); obtain ⟨q0a, q0b, q0c, q0d, q0e, q0f, q0g, q0h, q0i, q0j⟩ := (hSw.res (w.heap.size, n) (by simp)).1.all; obtain ⟨q1a, q1b, q1c, q1d, q1e, q1f, q1g, q1h, q1i, q1j⟩ := (hSw.res (w.heap.size + 1, a) (by simp)).1.all; obtain ⟨q2a, q2b, q2c, q2d, q2e, q2f, q2g, q2h, q2i, q2j⟩ := (hSw.res (w.heap.size + 1 + 1, b) (by simp)).1.all; go_simp; try with_reducible rfl)
    try simp only [Act.put, List.getElem_toArray, List.getElem_cons_zero, List.getElem_cons_succ, List.setIfInBounds_toArray, List.set_cons_zero, List.set_cons_succ]
    refine wpAnyG_take (i := 3) (v := ?_) rfl (by kernel_rfl) (by kernel_rfl) (by kernel_rfl) (by kernel_rfl) (fun _ _ _ h => h) (Or.inl ⟨by kernel_rfl, ?hy3⟩) (by assumption) ?_
    case hy3 => (intro wI hSw; (try dsimp only at hSw); obtain ⟨q0a, q0b, q0c, q0d, q0e, q0f, q0g, q0h, q0i, q0j⟩ := (hSw.res (w.heap.size, n) (by simp)).1.all; obtain ⟨q1a, q1b, q1c, q1d, q1e, q1f, q1g, q1h, q1i, q1j⟩ := (hSw.res (w.heap.size + 1, a) (by simp)).1.all; obtain ⟨q2a, q2b, q2c, q2d, q2e, q2f, q2g, q2h, q2i, q2j⟩ := (hSw.res (w.heap.size + 1 + 1, b) (by simp)).1.all; go_simp; try with_reducible rfl)
    try simp only [Act.put, List.getElem_toArray, List.getElem_cons_zero, List.getElem_cons_succ, List.setIfInBounds_toArray, List.set_cons_zero, List.set_cons_succ]
    refine wpAnyG_ready (rs := [2, 5]) (by kernel_rfl) (by simp) ?_
    refine AllReadyG.cons rfl (fun K hK => ?_) ?_
    · go_simp
      go_wp2_with fail
      refine (merge_any n a _ (hHeld.res (w.heap.size, n) (by simp)).2 (hHeld.res (w.heap.size + 1, a) (by simp)).2 (len_mono LN.out (by omega)) (len_mono LA.out (by omega))).mono ?_
      rintro e W2 ⟨m, rfl, okm, -, hqm, hb⟩
      have LM := hid (len_mrg (hHeld.res (w.heap.size, n) (by simp)).2 (hHeld.res (w.heap.size + 1, a) (by simp)).2 okm hqm LN.out LA.out)
      have OM := hid okm
      have QM := hid hqm
      try replace HP := hid (HP.out.on hb)
      have hM := hHeld.on hb
      refine hK.out _ _ hM (fun _ => ?_)
      replace HWS := hid (Nat.le_trans HWS.out hb.size)
      clear hK K hHeld hb okm hqm
      have hHeld := hM
      clear hM
      try simp only [Act.put, List.getElem_toArray, List.getElem_cons_zero, List.getElem_cons_succ, List.setIfInBounds_toArray, List.set_cons_zero, List.set_cons_succ]
      refine wpAnyG_ready (rs := [4, 5]) (by kernel_rfl) (by simp) ?_
      refine AllReadyG.cons rfl (fun K hK => ?_) ?_
      · go_simp
        go_wp2_with fail
        refine (merge_any m b _ OM.out (hHeld.res (w.heap.size + 1 + 1, b) (by simp)).2 (len_mono LM.out (by omega)) (len_mono LB.out (by omega))).mono ?_
        rintro e W4 ⟨rz, rfl, okr, hnr, hqr, hb⟩
        have OR := hid okr
        have QR := hid hqr
        try have FR := hid (off_new hnr HP.out.lt)
        try replace HP := hid (HP.out.on hb)
        have hM := hHeld.on hb
        refine hK.out _ _ hM (fun _ => ?_)
        replace HWS := hid (Nat.le_trans HWS.out hb.size)
        clear hK K hHeld hb okr hqr hnr
        have hHeld := hM
        clear hM
        try simp only [Act.put, List.getElem_toArray, List.getElem_cons_zero, List.getElem_cons_succ, List.setIfInBounds_toArray, List.set_cons_zero, List.set_cons_succ]
        refine wpAnyG_ready (rs := [5]) (by kernel_rfl) (by simp) ?_
        refine AllReadyG.cons rfl (fun K hK => ?_) AllReadyG.nil
        have hb := bel_new W4 (.cells #[.bool false, .int .i64 0, .slice none 0 0, .slice none 0 0, .bool false, .bool false, .slice none 0 0, .bool false, .slice none 0 0, .slice none 0 0] 26)
        have hM := hHeld.on hb
        have hk : Bs _ W4.heap.size sx0 := bs_new W4 sx0
        have hP0 : wc.heap.size ≤ W4.heap.size := HWS.out
        try have FR := hid (off_old OR.out (Nat.le_refl W4.heap.size))
        try replace OM := hid (OM.out.on hb)
        try replace OR := hid (OR.out.on hb)
        have hws2 := Nat.le_trans HWS.out hb.size
        go_simp
        refine hK.out _ _ hM (fun _ => ?_)
        clear hK K hHeld
        obtain ⟨PP, hPP⟩ : ∃ P, P = W4.heap.size := ⟨_, rfl⟩
        rw [← hPP] at hk hP0 ⊢
        try rw [← hPP] at FR
        have HP := hid hk
        have HPZ := hid hP0
        clear hPP hk hP0
        change Hid (Bs (W4.alloc (.cells #[.bool false, .int .i64 0, .slice none 0 0, .slice none 0 0, .bool false, .bool false, .slice none 0 0, .bool false, .slice none 0 0, .slice none 0 0] 26)) PP sx0) at HP
        generalize W4.alloc (.cells #[.bool false, .int .i64 0, .slice none 0 0, .slice none 0 0, .bool false, .bool false, .slice none 0 0, .bool false, .slice none 0 0, .slice none 0 0] 26) = W5 at *
        have hHeld := hM
        replace HWS := hid hws2
        clear hM hb hws2
        try simp only [Act.put, List.getElem_toArray, List.getElem_cons_zero, List.getElem_cons_succ, List.setIfInBounds_toArray, List.set_cons_zero, List.set_cons_succ]
        have hG := hHeld
        clear hHeld
        have hHeld : True := trivial
        refine wpAnyG_gateOp rfl (by kernel_rfl) (fun K hK => ?_)
        obtain ⟨za, zb, zc, zd, ze, zf, zg, zh, zi, zj⟩ := HP.out.all
        dsimp only [sx0, sl0] at za zb zc zd ze zf zg zh zi zj
        have fz := HP.out.fz
        have hQ := HC.out.push hG HPZ.out HP.out OR.out FR.out
        go_simp
        refine hK.out _ _ trivial (fun _ => ?_)
        clear hK K
        try simp only [Act.put, List.getElem_toArray, List.getElem_cons_zero, List.getElem_cons_succ, List.setIfInBounds_toArray, List.set_cons_zero, List.set_cons_succ]
        refine wpAnyH_done (by kernel_rfl) ?_ _
        go_wp2_with fail
        go_meet
        exact ⟨PP, rz, rfl, hQ, by rw [QR.out, QM.out]⟩
      refine AllReadyG.cons rfl (fun K hK => ?_) ?_
      · have hb := bel_new W2 (.cells #[.bool false, .int .i64 0, .slice none 0 0, .slice none 0 0, .bool false, .bool false, .slice none 0 0, .bool false, .slice none 0 0, .slice none 0 0] 26)
        have hM := hHeld.on hb
        have hk : Bs _ W2.heap.size sx0 := bs_new W2 sx0
        have hP0 : wc.heap.size ≤ W2.heap.size := HWS.out
        try have FR := hid (off_old OR.out (Nat.le_refl W2.heap.size))
        try replace OM := hid (OM.out.on hb)
        try replace OR := hid (OR.out.on hb)
        have hws2 := Nat.le_trans HWS.out hb.size
        go_simp
        refine hK.out _ _ hM (fun _ => ?_)
        clear hK K hHeld
        obtain ⟨PP, hPP⟩ : ∃ P, P = W2.heap.size := ⟨_, rfl⟩
        rw [← hPP] at hk hP0 ⊢
        try rw [← hPP] at FR
        have HP := hid hk
        have HPZ := hid hP0
        clear hPP hk hP0
        change Hid (Bs (W2.alloc (.cells #[.bool false, .int .i64 0, .slice none 0 0, .slice none 0 0, .bool false, .bool false, .slice none 0 0, .bool false, .slice none 0 0, .slice none 0 0] 26)) PP sx0) at HP
        generalize W2.alloc (.cells #[.bool false, .int .i64 0, .slice none 0 0, .slice none 0 0, .bool false, .bool false, .slice none 0 0, .bool false, .slice none 0 0, .slice none 0 0] 26) = W5 at *
        have hHeld := hM
        replace HWS := hid hws2
        clear hM hb hws2
        try simp only [Act.put, List.getElem_toArray, List.getElem_cons_zero, List.getElem_cons_succ, List.setIfInBounds_toArray, List.set_cons_zero, List.set_cons_succ]
        refine wpAnyG_ready (rs := [4]) (by kernel_rfl) (by simp) ?_
        refine AllReadyG.cons rfl (fun K hK => ?_) AllReadyG.nil
        go_simp
        go_wp2_with fail
        refine (merge_any m b _ OM.out (hHeld.res (w.heap.size + 1 + 1, b) (by simp)).2 (len_mono LM.out (by omega)) (len_mono LB.out (by omega))).mono ?_
        rintro e W4 ⟨rz, rfl, okr, hnr, hqr, hb⟩
        have OR := hid okr
        have QR := hid hqr
        try have FR := hid (off_new hnr HP.out.lt)
        try replace HP := hid (HP.out.on hb)
        have hM := hHeld.on hb
        refine hK.out _ _ hM (fun _ => ?_)
        replace HWS := hid (Nat.le_trans HWS.out hb.size)
        clear hK K hHeld hb okr hqr hnr
        have hHeld := hM
        clear hM
        try simp only [Act.put, List.getElem_toArray, List.getElem_cons_zero, List.getElem_cons_succ, List.setIfInBounds_toArray, List.set_cons_zero, List.set_cons_succ]
        have hG := hHeld
        clear hHeld
        have hHeld : True := trivial
        refine wpAnyG_gateOp rfl (by kernel_rfl) (fun K hK => ?_)
        obtain ⟨za, zb, zc, zd, ze, zf, zg, zh, zi, zj⟩ := HP.out.all
        dsimp only [sx0, sl0] at za zb zc zd ze zf zg zh zi zj
        have fz := HP.out.fz
        have hQ := HC.out.push hG HPZ.out HP.out OR.out FR.out
        go_simp
        refine hK.out _ _ trivial (fun _ => ?_)
        clear hK K
        try simp only [Act.put, List.getElem_toArray, List.getElem_cons_zero, List.getElem_cons_succ, List.setIfInBounds_toArray, List.set_cons_zero, List.set_cons_succ]
        refine wpAnyH_done (by kernel_rfl) ?_ _
        go_wp2_with fail
        go_meet
        exact ⟨PP, rz, rfl, hQ, by rw [QR.out, QM.out]⟩
      exact AllReadyG.nil
    refine AllReadyG.cons rfl (fun K hK => ?_) ?_
    · have hb := bel_new W0 (.cells #[.bool false, .int .i64 0, .slice none 0 0, .slice none 0 0, .bool false, .bool false, .slice none 0 0, .bool false, .slice none 0 0, .slice none 0 0] 26)
      have hM := hHeld.on hb
      have hk : Bs _ W0.heap.size sx0 := bs_new W0 sx0
      have hP0 : wc.heap.size ≤ W0.heap.size := HWS.out
      try have FR := hid (off_old OR.out (Nat.le_refl W0.heap.size))
      try replace OM := hid (OM.out.on hb)
      try replace OR := hid (OR.out.on hb)
      have hws2 := Nat.le_trans HWS.out hb.size
      go_simp
      refine hK.out _ _ hM (fun _ => ?_)
      clear hK K hHeld
      obtain ⟨PP, hPP⟩ : ∃ P, P = W0.heap.size := ⟨_, rfl⟩
      rw [← hPP] at hk hP0 ⊢
      try rw [← hPP] at FR
      have HP := hid hk
      have HPZ := hid hP0
      clear hPP hk hP0
      change Hid (Bs (W0.alloc (.cells #[.bool false, .int .i64 0, .slice none 0 0, .slice none 0 0, .bool false, .bool false, .slice none 0 0, .bool false, .slice none 0 0, .slice none 0 0] 26)) PP sx0) at HP
      generalize W0.alloc (.cells #[.bool false, .int .i64 0, .slice none 0 0, .slice none 0 0, .bool false, .bool false, .slice none 0 0, .bool false, .slice none 0 0, .slice none 0 0] 26) = W5 at *
      have hHeld := hM
      replace HWS := hid hws2
      clear hM hb hws2
      try simp only [Act.put, List.getElem_toArray, List.getElem_cons_zero, List.getElem_cons_succ, List.setIfInBounds_toArray, List.set_cons_zero, List.set_cons_succ]
      refine wpAnyG_ready (rs := [2]) (by kernel_rfl) (by simp) ?_
      refine AllReadyG.cons rfl (fun K hK => ?_) AllReadyG.nil
      go_simp
      go_wp2_with fail
      refine (merge_any n a _ (hHeld.res (w.heap.size, n) (by simp)).2 (hHeld.res (w.heap.size + 1, a) (by simp)).2 (len_mono LN.out (by omega)) (len_mono LA.out (by omega))).mono ?_
      rintro e W2 ⟨m, rfl, okm, -, hqm, hb⟩
      have LM := hid (len_mrg (hHeld.res (w.heap.size, n) (by simp)).2 (hHeld.res (w.heap.size + 1, a) (by simp)).2 okm hqm LN.out LA.out)
      have OM := hid okm
      have QM := hid hqm
      try replace HP := hid (HP.out.on hb)
      have hM := hHeld.on hb
      refine hK.out _ _ hM (fun _ => ?_)
      replace HWS := hid (Nat.le_trans HWS.out hb.size)
      clear hK K hHeld hb okm hqm
      have hHeld := hM
      clear hM
      try simp only [Act.put, List.getElem_toArray, List.getElem_cons_zero, List.getElem_cons_succ, List.setIfInBounds_toArray, List.set_cons_zero, List.set_cons_succ]
      refine wpAnyG_ready (rs := [4]) (by kernel_rfl) (by simp) ?_
      refine AllReadyG.cons rfl (fun K hK => ?_) AllReadyG.nil
      go_simp
      go_wp2_with fail
      refine (merge_any m b _ OM.out (hHeld.res (w.heap.size + 1 + 1, b) (by simp)).2 (len_mono LM.out (by omega)) (len_mono LB.out (by omega))).mono ?_
      rintro e W4 ⟨rz, rfl, okr, hnr, hqr, hb⟩
      have OR := hid okr
      have QR := hid hqr
      try have FR := hid (off_new hnr HP.out.lt)
      try replace HP := hid (HP.out.on hb)
      have hM := hHeld.on hb
      refine hK.out _ _ hM (fun _ => ?_)
      replace HWS := hid (Nat.le_trans HWS.out hb.size)
      clear hK K hHeld hb okr hqr hnr
      have hHeld := hM
      clear hM
      try simp only [Act.put, List.getElem_toArray, List.getElem_cons_zero, List.getElem_cons_succ, List.setIfInBounds_toArray, List.set_cons_zero, List.set_cons_succ]
      have hG := hHeld
      clear hHeld
      have hHeld : True := trivial
      refine wpAnyG_gateOp rfl (by kernel_rfl) (fun K hK => ?_)
      obtain ⟨za, zb, zc, zd, ze, zf, zg, zh, zi, zj⟩ := HP.out.all
      dsimp only [sx0, sl0] at za zb zc zd ze zf zg zh zi zj
      have fz := HP.out.fz
      have hQ := HC.out.push hG HPZ.out HP.out OR.out FR.out
      go_simp
      refine hK.out _ _ trivial (fun _ => ?_)
      clear hK K
      try simp only [Act.put, List.getElem_toArray, List.getElem_cons_zero, List.getElem_cons_succ, List.setIfInBounds_toArray, List.set_cons_zero, List.set_cons_succ]
      refine wpAnyH_done (by kernel_rfl) ?_ _
      go_wp2_with fail
      go_meet
      exact ⟨PP, rz, rfl, hQ, by rw [QR.out, QM.out]⟩
    exact AllReadyG.nil
  obtain ⟨P9, rz, rfl, hch, hqrz⟩ := hcut
  clear HC
  have HC := hid hch
  have Qrz := hid hqrz
  clear hch hqrz
  go_upto_region 6 with fail
  go_cut [10] (fun v wc => ∃ (P : Nat) (r : Sx), v = .pointer (some ⟨P, 0, none⟩) ∧ Ch w ((P, r) :: [(P9, rz), (P8, ry), (P7, rx), (w.heap.size, n), (w.heap.size + 1, a), (w.heap.size + 1 + 1, b)]) wc ∧ r.q = mrg n.q (mrg a.q b.q))
  case first =>
    have HWS : Hid (wc.heap.size ≤ wc.drew.heap.size) := Nat.le_refl _
    refine wp_region_gate_drew (g := 6) (S := Ch w [(P9, rz), (P8, ry), (P7, rx), (w.heap.size, n), (w.heap.size + 1, a), (w.heap.size + 1 + 1, b)]) (by kernel_rfl) ?hh (fun hHeld => ?_)
    case hh => exact (HC.out.drew)
    generalize wc.drew = W0 at hHeld HWS ⊢
    try dsimp only at hHeld
    refine wpAnyG_take (i := 0) (v := ?_) rfl (by kernel_rfl) (by kernel_rfl) (by kernel_rfl) (by kernel_rfl) (fun _ _ _ h => h) (Or.inl ⟨by kernel_rfl, ?hy0⟩) (by assumption) ?_
    case hy0 => (intro wI hSw; (try dsimp only at hSw); obtain ⟨q0a, q0b, q0c, q0d, q0e, q0f, q0g, q0h, q0i, q0j⟩ := (hSw.res (w.heap.size, n) (by simp)).1.all; obtain ⟨q1a, q1b, q1c, q1d, q1e, q1f, q1g, q1h, q1i, q1j⟩ := (hSw.res (w.heap.size + 1, a) (by simp)).1.all; obtain ⟨q2a, q2b, q2c, q2d, q2e, q2f, q2g, q2h, q2i, q2j⟩ := (hSw.res (w.heap.size + 1 + 1, b) (by simp)).1.all; go_simp; try with_reducible rfl)
    try simp only [Act.put, List.getElem_toArray, List.getElem_cons_zero, List.setIfInBounds_toArray, List.set_cons_zero, List.set_cons_succ]
    refine wpAnyG_take (i := 1) (v := ?_) rfl (by kernel_rfl) (by kernel_rfl) (by kernel_rfl) (by kernel_rfl) (fun _ _ _ h => h) (Or.inl ⟨by kernel_rfl, ?hy1⟩) (by assumption) ?_
    case hy1 => (intro wI hSw; (try dsimp only at hSw); obtain ⟨q0a, q0b, q0c, q0d, q0e, q0f, q0g, q0h, q0i, q0j⟩ := (hSw.res (w.heap.size, n) (by simp)).1.all; obtain ⟨q1a, q1b, q1c, q1d, q1e, q1f, q1g, q1h, q1i, q1j⟩ := (hSw.res (w.heap.size + 1, a) (by simp)).1.all; obtain ⟨q2a, q2b, q2c, q2d, q2e, q2f, q2g, q2h, q2i, q2j⟩ := (hSw.res (w.heap.size + 1 + 1, b) (by simp)).1.all; go_simp; try with_reducible rfl)
    try simp only [Act.put, List.getElem_toArray, List.getElem_cons_zero, List.getElem_cons_succ, List.setIfInBounds_toArray, List.set_cons_zero, List.set_cons_succ]
    refine wpAnyG_take (i := 2) (v := ?_) rfl (by kernel_rfl) (by kernel_rfl) (by kernel_rfl) (by kernel_rfl) (fun _ _ _ h => h) (Or.inl ⟨by kernel_rfl, ?hy2⟩) (by assumption) ?_
    case hy2 => (intro wI hSw; (try dsimp only at hSw); obtain ⟨q0a, q0b, q0c, q0d, q0e, q0f, q0g, q0h, q0i, q0j⟩ := (hSw.res (w.heap.size, n) (by simp)).1.all; obtain ⟨q1a, q1b, q1c, q1d, q1e, q1f, q1g, q1h, q1i, q1j⟩ := (hSw.res (w.heap.size + 1, a) (by simp)).1.all; obtain ⟨q2a, q2b, q2c, q2d, q2e, q2f, q2g, q2h, q2i, q2j⟩ := (hSw.res (w.heap.size + 1 + 1, b) (by simp)).1.all; go_simp; try with_reducible rfl)
    try simp only [Act.put, List.getElem_toArray, List.getElem_cons_zero, List.getElem_cons_succ, List.setIfInBounds_toArray, List.set_cons_zero, List.set_cons_succ]
    refine wpAnyG_ready (rs := [3, 5]) (by kernel_rfl) (by simp) ?_
    refine AllReadyG.cons rfl (fun K hK => ?_) ?_
    · go_simp
      go_wp2_with fail
      refine (merge_any a b _ (hHeld.res (w.heap.size + 1, a) (by simp)).2 (hHeld.res (w.heap.size + 1 + 1, b) (by simp)).2 (len_mono LA.out (by omega)) (len_mono LB.out (by omega))).mono ?_
      rintro e W3 ⟨m, rfl, okm, -, hqm, hb⟩
      have LM := hid (len_mrg (hHeld.res (w.heap.size + 1, a) (by simp)).2 (hHeld.res (w.heap.size + 1 + 1, b) (by simp)).2 okm hqm LA.out LB.out)
      have OM := hid okm
      have QM := hid hqm
      try replace HP := hid (HP.out.on hb)
      have hM := hHeld.on hb
      refine hK.out _ _ hM (fun _ => ?_)
      replace HWS := hid (Nat.le_trans HWS.out hb.size)
      clear hK K hHeld hb okm hqm
      have hHeld := hM
      clear hM
      try simp only [Act.put, List.getElem_toArray, List.getElem_cons_zero, List.getElem_cons_succ, List.setIfInBounds_toArray, List.set_cons_zero, List.set_cons_succ]
      refine wpAnyG_ready (rs := [4, 5]) (by kernel_rfl) (by simp) ?_
      refine AllReadyG.cons rfl (fun K hK => ?_) ?_
      · go_simp
        go_wp2_with fail
        refine (merge_any n m _ (hHeld.res (w.heap.size, n) (by simp)).2 OM.out (len_mono LN.out (by omega)) (len_mono LM.out (by omega))).mono ?_
        rintro e W4 ⟨rw_, rfl, okr, hnr, hqr, hb⟩
        have OR := hid okr
        have QR := hid hqr
        try have FR := hid (off_new hnr HP.out.lt)
        try replace HP := hid (HP.out.on hb)
        have hM := hHeld.on hb
        refine hK.out _ _ hM (fun _ => ?_)
        replace HWS := hid (Nat.le_trans HWS.out hb.size)
        clear hK K hHeld hb okr hqr hnr
        have hHeld := hM
        clear hM
        try simp only [Act.put, List.getElem_toArray, List.getElem_cons_zero, List.getElem_cons_succ, List.setIfInBounds_toArray, List.set_cons_zero, List.set_cons_succ]
        refine wpAnyG_ready (rs := [5]) (by kernel_rfl) (by simp) ?_
        refine AllReadyG.cons rfl (fun K hK => ?_) AllReadyG.nil
        have hb := bel_new W4 (.cells #[.bool false, .int .i64 0, .slice none 0 0, .slice none 0 0, .bool false, .bool false, .slice none 0 0, .bool false, .slice none 0 0, .slice none 0 0] 26)
        have hM := hHeld.on hb
        have hk : Bs _ W4.heap.size sx0 := bs_new W4 sx0
        have hP0 : wc.heap.size ≤ W4.heap.size := HWS.out
        try have FR := hid (off_old OR.out (Nat.le_refl W4.heap.size))
        try replace OM := hid (OM.out.on hb)
        try replace OR := hid (OR.out.on hb)
        have hws2 := Nat.le_trans HWS.out hb.size
        go_simp
        refine hK.out _ _ hM (fun _ => ?_)
        clear hK K hHeld
        obtain ⟨PP, hPP⟩ : ∃ P, P = W4.heap.size := ⟨_, rfl⟩
        rw [← hPP] at hk hP0 ⊢
        try rw [← hPP] at FR
        have HP := hid hk
        have HPZ := hid hP0
        clear hPP hk hP0
        change Hid (Bs (W4.alloc (.cells #[.bool false, .int .i64 0, .slice none 0 0, .slice none 0 0, .bool false, .bool false, .slice none 0 0, .bool false, .slice none 0 0, .slice none 0 0] 26)) PP sx0) at HP
        generalize W4.alloc (.cells #[.bool false, .int .i64 0, .slice none 0 0, .slice none 0 0, .bool false, .bool false, .slice none 0 0, .bool false, .slice none 0 0, .slice none 0 0] 26) = W5 at *
        have hHeld := hM
        replace HWS := hid hws2
        clear hM hb hws2
        try simp only [Act.put, List.getElem_toArray, List.getElem_cons_zero, List.getElem_cons_succ, List.setIfInBounds_toArray, List.set_cons_zero, List.set_cons_succ]
        have hG := hHeld
        clear hHeld
        have hHeld : True := trivial
        refine wpAnyG_gateOp rfl (by kernel_rfl) (fun K hK => ?_)
        obtain ⟨za, zb, zc, zd, ze, zf, zg, zh, zi, zj⟩ := HP.out.all
        dsimp only [sx0, sl0] at za zb zc zd ze zf zg zh zi zj
        have fz := HP.out.fz
        have hQ := HC.out.push hG HPZ.out HP.out OR.out FR.out
        go_simp
        refine hK.out _ _ trivial (fun _ => ?_)
        clear hK K
        try simp only [Act.put, List.getElem_toArray, List.getElem_cons_zero, List.getElem_cons_succ, List.setIfInBounds_toArray, List.set_cons_zero, List.set_cons_succ]
        refine wpAnyH_done (by kernel_rfl) ?_ _
        go_wp2_with fail
        go_meet
        exact ⟨PP, rw_, rfl, hQ, by rw [QR.out, QM.out]⟩
      refine AllReadyG.cons rfl (fun K hK => ?_) ?_
      · have hb := bel_new W3 (.cells #[.bool false, .int .i64 0, .slice none 0 0, .slice none 0 0, .bool false, .bool false, .slice none 0 0, .bool false, .slice none 0 0, .slice none 0 0] 26)
        have hM := hHeld.on hb
        have hk : Bs _ W3.heap.size sx0 := bs_new W3 sx0
        have hP0 : wc.heap.size ≤ W3.heap.size := HWS.out
        try have FR := hid (off_old OR.out (Nat.le_refl W3.heap.size))
        try replace OM := hid (OM.out.on hb)
        try replace OR := hid (OR.out.on hb)
        have hws2 := Nat.le_trans HWS.out hb.size
        go_simp
        refine hK.out _ _ hM (fun _ => ?_)
        clear hK K hHeld
        obtain ⟨PP, hPP⟩ : ∃ P, P = W3.heap.size := ⟨_, rfl⟩
        rw [← hPP] at hk hP0 ⊢
        try rw [← hPP] at FR
        have HP := hid hk
        have HPZ := hid hP0
        clear hPP hk hP0
        change Hid (Bs (W3.alloc (.cells #[.bool false, .int .i64 0, .slice none 0 0, .slice none 0 0, .bool false, .bool false, .slice none 0 0, .bool false, .slice none 0 0, .slice none 0 0] 26)) PP sx0) at HP
        generalize W3.alloc (.cells #[.bool false, .int .i64 0, .slice none 0 0, .slice none 0 0, .bool false, .bool false, .slice none 0 0, .bool false, .slice none 0 0, .slice none 0 0] 26) = W5 at *
        have hHeld := hM
        replace HWS := hid hws2
        clear hM hb hws2
        try simp only [Act.put, List.getElem_toArray, List.getElem_cons_zero, List.getElem_cons_succ, List.setIfInBounds_toArray, List.set_cons_zero, List.set_cons_succ]
        refine wpAnyG_ready (rs := [4]) (by kernel_rfl) (by simp) ?_
        refine AllReadyG.cons rfl (fun K hK => ?_) AllReadyG.nil
        go_simp
        go_wp2_with fail
        refine (merge_any n m _ (hHeld.res (w.heap.size, n) (by simp)).2 OM.out (len_mono LN.out (by omega)) (len_mono LM.out (by omega))).mono ?_
        rintro e W4 ⟨rw_, rfl, okr, hnr, hqr, hb⟩
        have OR := hid okr
        have QR := hid hqr
        try have FR := hid (off_new hnr HP.out.lt)
        try replace HP := hid (HP.out.on hb)
        have hM := hHeld.on hb
        refine hK.out _ _ hM (fun _ => ?_)
        replace HWS := hid (Nat.le_trans HWS.out hb.size)
        clear hK K hHeld hb okr hqr hnr
        have hHeld := hM
        clear hM
        try simp only [Act.put, List.getElem_toArray, List.getElem_cons_zero, List.getElem_cons_succ, List.setIfInBounds_toArray, List.set_cons_zero, List.set_cons_succ]
        have hG := hHeld
        clear hHeld
        have hHeld : True := trivial
        refine wpAnyG_gateOp rfl (by kernel_rfl) (fun K hK => ?_)
        obtain ⟨za, zb, zc, zd, ze, zf, zg, zh, zi, zj⟩ := HP.out.all
        dsimp only [sx0, sl0] at za zb zc zd ze zf zg zh zi zj
        have fz := HP.out.fz
        have hQ := HC.out.push hG HPZ.out HP.out OR.out FR.out
        go_simp
        refine hK.out _ _ trivial (fun _ => ?_)
        clear hK K
        try simp only [Act.put, List.getElem_toArray, List.getElem_cons_zero, List.getElem_cons_succ, List.setIfInBounds_toArray, List.set_cons_zero, List.set_cons_succ]
        refine wpAnyH_done (by kernel_rfl) ?_ _
        go_wp2_with fail
        go_meet
        exact ⟨PP, rw_, rfl, hQ, by rw [QR.out, QM.out]⟩
      exact AllReadyG.nil
    refine AllReadyG.cons rfl (fun K hK => ?_) ?_
    · have hb := bel_new W0 (.cells #[.bool false, .int .i64 0, .slice none 0 0, .slice none 0 0, .bool false, .bool false, .slice none 0 0, .bool false, .slice none 0 0, .slice none 0 0] 26)
      have hM := hHeld.on hb
      have hk : Bs _ W0.heap.size sx0 := bs_new W0 sx0
      have hP0 : wc.heap.size ≤ W0.heap.size := HWS.out
      try have FR := hid (off_old OR.out (Nat.le_refl W0.heap.size))
      try replace OM := hid (OM.out.on hb)
      try replace OR := hid (OR.out.on hb)
      have hws2 := Nat.le_trans HWS.out hb.size
      go_simp
      refine hK.out _ _ hM (fun _ => ?_)
      clear hK K hHeld
      obtain ⟨PP, hPP⟩ : ∃ P, P = W0.heap.size := ⟨_, rfl⟩
      rw [← hPP] at hk hP0 ⊢
      try rw [← hPP] at FR
      have HP := hid hk
      have HPZ := hid hP0
      clear hPP hk hP0
      change Hid (Bs (W0.alloc (.cells #[.bool false, .int .i64 0, .slice none 0 0, .slice none 0 0, .bool false, .bool false, .slice none 0 0, .bool false, .slice none 0 0, .slice none 0 0] 26)) PP sx0) at HP
      generalize W0.alloc (.cells #[.bool false, .int .i64 0, .slice none 0 0, .slice none 0 0, .bool false, .bool false, .slice none 0 0, .bool false, .slice none 0 0, .slice none 0 0] 26) = W5 at *
      have hHeld := hM
      replace HWS := hid hws2
      clear hM hb hws2
      try simp only [Act.put, List.getElem_toArray, List.getElem_cons_zero, List.getElem_cons_succ, List.setIfInBounds_toArray, List.set_cons_zero, List.set_cons_succ]
      refine wpAnyG_ready (rs := [3]) (by kernel_rfl) (by simp) ?_
      refine AllReadyG.cons rfl (fun K hK => ?_) AllReadyG.nil
      go_simp
      go_wp2_with fail
      refine (merge_any a b _ (hHeld.res (w.heap.size + 1, a) (by simp)).2 (hHeld.res (w.heap.size + 1 + 1, b) (by simp)).2 (len_mono LA.out (by omega)) (len_mono LB.out (by omega))).mono ?_
      rintro e W3 ⟨m, rfl, okm, -, hqm, hb⟩
      have LM := hid (len_mrg (hHeld.res (w.heap.size + 1, a) (by simp)).2 (hHeld.res (w.heap.size + 1 + 1, b) (by simp)).2 okm hqm LA.out LB.out)
      have OM := hid okm
      have QM := hid hqm
      try replace HP := hid (HP.out.on hb)
      have hM := hHeld.on hb
      refine hK.out _ _ hM (fun _ => ?_)
      replace HWS := hid (Nat.le_trans HWS.out hb.size)
      clear hK K hHeld hb okm hqm
      have hHeld := hM
      clear hM
      try simp only [Act.put, List.getElem_toArray, List.getElem_cons_zero, List.getElem_cons_succ, List.setIfInBounds_toArray, List.set_cons_zero, List.set_cons_succ]
      refine wpAnyG_ready (rs := [4]) (by kernel_rfl) (by simp) ?_
      refine AllReadyG.cons rfl (fun K hK => ?_) AllReadyG.nil
      go_simp
      go_wp2_with fail
      refine (merge_any n m _ (hHeld.res (w.heap.size, n) (by simp)).2 OM.out (len_mono LN.out (by omega)) (len_mono LM.out (by omega))).mono ?_
      rintro e W4 ⟨rw_, rfl, okr, hnr, hqr, hb⟩
      have OR := hid okr
      have QR := hid hqr
      try have FR := hid (off_new hnr HP.out.lt)
      try replace HP := hid (HP.out.on hb)
      have hM := hHeld.on hb
      refine hK.out _ _ hM (fun _ => ?_)
      replace HWS := hid (Nat.le_trans HWS.out hb.size)
      clear hK K hHeld hb okr hqr hnr
      have hHeld := hM
      clear hM
      try simp only [Act.put, List.getElem_toArray, List.getElem_cons_zero, List.getElem_cons_succ, List.setIfInBounds_toArray, List.set_cons_zero, List.set_cons_succ]
      have hG := hHeld
      clear hHeld
      have hHeld : True := trivial
      refine wpAnyG_gateOp rfl (by kernel_rfl) (fun K hK => ?_)
      obtain ⟨za, zb, zc, zd, ze, zf, zg, zh, zi, zj⟩ := HP.out.all
      dsimp only [sx0, sl0] at za zb zc zd ze zf zg zh zi zj
      have fz := HP.out.fz
      have hQ := HC.out.push hG HPZ.out HP.out OR.out FR.out
      go_simp
      refine hK.out _ _ trivial (fun _ => ?_)
      clear hK K
      try simp only [Act.put, List.getElem_toArray, List.getElem_cons_zero, List.getElem_cons_succ, List.setIfInBounds_toArray, List.set_cons_zero, List.set_cons_succ]
      refine wpAnyH_done (by kernel_rfl) ?_ _
      go_wp2_with fail
      go_meet
      exact ⟨PP, rw_, rfl, hQ, by rw [QR.out, QM.out]⟩
    exact AllReadyG.nil
  obtain ⟨P10, rw_, rfl, hch, hqrw_⟩ := hcut
  clear HC
  have HC := hid hch
  have Qrw_ := hid hqrw_
  clear hch hqrw_
  have hxy : ry.q = rx.q := by rw [Qry.out, Qrx.out, apl_mrg (show Onc a.q.pl from HON.out)]
  have hdm : ((rz.dm.n : Int) == rw_.dm.n) = true := by
    have h1 := (HC.out.res (P9, rz) (by simp)).2.dm.len
    have h2 := (HC.out.res (P10, rw_) (by simp)).2.dm.len
    have h3 : rz.dm.l = (n.q.dm ++ a.q.dm) ++ b.q.dm := congrArg Sq.dm Qrz.out
    have h4 : rw_.dm.l = n.q.dm ++ (a.q.dm ++ b.q.dm) := congrArg Sq.dm Qrw_.out
    rw [← h1, ← h2, h3, h4, List.append_assoc]
    simp
  have hbuf : (rz.buf == rw_.buf) = true := by
    have h3 : rz.q.buf = rw_.q.buf := by rw [Qrz.out, Qrw_.out, mrg_buf]
    rw [beq_iff_eq]
    exact h3
  have hfr : rz.fr.l = rw_.fr.l := by
    have h3 : rz.q.fr = rw_.q.fr := by rw [Qrz.out, Qrw_.out]; exact List.append_assoc _ _ _
    exact h3
  have hod : rz.od.l = rw_.od.l := by
    have h3 : rz.q.od = rw_.q.od := by rw [Qrz.out, Qrw_.out, mrg_od]
    exact h3
  have C2 : Hid (∀ u, Ch w [(P10, rw_), (P9, rz), (P8, ry), (P7, rx), (w.heap.size, n), (w.heap.size + 1, a), (w.heap.size + 1 + 1, b)] u → Calls Try.prog 19 #[.agg #[.bool rx.at_, .int .i64 rx.buf, .slice rx.dm.a rx.dm.n rx.dm.c, .slice rx.fr.a rx.fr.n rx.fr.c, .bool rx.inp, .bool rx.all, .slice rx.rg.a rx.rg.n rx.rg.c, .bool rx.ord, .slice rx.od.a rx.od.n rx.od.c, .slice rx.pl.a rx.pl.n rx.pl.c], .agg #[.bool ry.at_, .int .i64 ry.buf, .slice ry.dm.a ry.dm.n ry.dm.c, .slice ry.fr.a ry.fr.n ry.fr.c, .bool ry.inp, .bool ry.all, .slice ry.rg.a ry.rg.n ry.rg.c, .bool ry.ord, .slice ry.od.a ry.od.n ry.od.c, .slice ry.pl.a ry.pl.n ry.pl.c]] u fun e w' => e = .returned (.bool true) ∧ RowKit.Below u.heap.size u w') := fun u h => by
    have := same_any rx ry u (h.res (P7, rx) (by simp)).2 (h.res (P8, ry) (by simp)).2
    rw [hxy, sm_same] at this
    exact this
  have C17 : Hid (∀ u, Ch w [(P10, rw_), (P9, rz), (P8, ry), (P7, rx), (w.heap.size, n), (w.heap.size + 1, a), (w.heap.size + 1 + 1, b)] u → Calls Try.prog 24 #[.slice rz.fr.a rz.fr.n rz.fr.c, .slice rw_.fr.a rw_.fr.n rw_.fr.c] u fun e w' => e = .returned (.bool true) ∧ RowKit.Below u.heap.size u w') := fun u h => by
    have := sameints_any _ _ _ _ _ _ _ _ _ (h.res (P9, rz) (by simp)).2.fr (h.res (P10, rw_) (by simp)).2.fr
    rw [hfr, leqs_same] at this
    exact this.mono fun e w' ⟨he, q, hw⟩ => ⟨he, by rw [hw]; exact below_drewN (Below.refl _ _) q⟩
  have C31 : Hid (∀ u, Ch w [(P10, rw_), (P9, rz), (P8, ry), (P7, rx), (w.heap.size, n), (w.heap.size + 1, a), (w.heap.size + 1 + 1, b)] u → Calls Try.prog 24 #[.slice rz.od.a rz.od.n rz.od.c, .slice rw_.od.a rw_.od.n rw_.od.c] u fun e w' => e = .returned (.bool true) ∧ RowKit.Below u.heap.size u w') := fun u h => by
    have := sameints_any _ _ _ _ _ _ _ _ _ (h.res (P9, rz) (by simp)).2.od (h.res (P10, rw_) (by simp)).2.od
    rw [hod, leqs_same] at this
    exact this.mono fun e w' ⟨he, q, hw⟩ => ⟨he, by rw [hw]; exact below_drewN (Below.refl _ _) q⟩
  clear hxy hfr hod
  go_upto_region 7 with fail
  refine swap_ops (ops' := opsC7) (by kernel_rfl) ?_
  refine wp_region_held_drew (S := Ch w [(P10, rw_), (P9, rz), (P8, ry), (P7, rx), (w.heap.size, n), (w.heap.size + 1, a), (w.heap.size + 1 + 1, b)]) (by kernel_rfl) ?hh (fun hHeld => ?_)
  case hh => exact (HC.out.drew)
  generalize wc.drew = W0 at hHeld ⊢
  try dsimp only at hHeld
  refine wpAnyH_take (i := 0) (v := ?_) (oi := { dst := some 51, op := Op.load 26 (Operand.tmp 7), type := 26, pos := "law.go:54", after := #[], guard := none }) (by kernel_rfl) (by kernel_rfl) (by kernel_rfl) (by kernel_rfl) (fun _ _ _ h => h) (Or.inl ⟨by kernel_rfl, ?hy0⟩) (by assumption) ?_
  case hy0 => (intro wI hSw; (try dsimp only at hSw); obtain ⟨q0a, q0b, q0c, q0d, q0e, q0f, q0g, q0h, q0i, q0j⟩ := (hSw.res (P7, rx) (by simp)).1.all; obtain ⟨q1a, q1b, q1c, q1d, q1e, q1f, q1g, q1h, q1i, q1j⟩ := (hSw.res (P8, ry) (by simp)).1.all; obtain ⟨q2a, q2b, q2c, q2d, q2e, q2f, q2g, q2h, q2i, q2j⟩ := (hSw.res (P9, rz) (by simp)).1.all; obtain ⟨q3a, q3b, q3c, q3d, q3e, q3f, q3g, q3h, q3i, q3j⟩ := (hSw.res (P10, rw_) (by simp)).1.all; obtain ⟨q4a, q4b, q4c, q4d, q4e, q4f, q4g, q4h, q4i, q4j⟩ := (hSw.res (w.heap.size, n) (by simp)).1.all; obtain ⟨q5a, q5b, q5c, q5d, q5e, q5f, q5g, q5h, q5i, q5j⟩ := (hSw.res (w.heap.size + 1, a) (by simp)).1.all; obtain ⟨q6a, q6b, q6c, q6d, q6e, q6f, q6g, q6h, q6i, q6j⟩ := (hSw.res (w.heap.size + 1 + 1, b) (by simp)).1.all; go_simp; try with_reducible rfl)
  try simp only [Act.put, List.setIfInBounds_toArray, List.set_cons_zero, List.set_cons_succ]
  refine wpAnyH_take (i := 1) (v := ?_) (oi := { dst := some 52, op := Op.load 26 (Operand.tmp 8), type := 26, pos := "law.go:54", after := #[], guard := none }) (by kernel_rfl) (by kernel_rfl) (by kernel_rfl) (by kernel_rfl) (fun _ _ _ h => h) (Or.inl ⟨by kernel_rfl, ?hy1⟩) (by assumption) ?_
  case hy1 => (intro wI hSw; (try dsimp only at hSw); obtain ⟨q0a, q0b, q0c, q0d, q0e, q0f, q0g, q0h, q0i, q0j⟩ := (hSw.res (P7, rx) (by simp)).1.all; obtain ⟨q1a, q1b, q1c, q1d, q1e, q1f, q1g, q1h, q1i, q1j⟩ := (hSw.res (P8, ry) (by simp)).1.all; obtain ⟨q2a, q2b, q2c, q2d, q2e, q2f, q2g, q2h, q2i, q2j⟩ := (hSw.res (P9, rz) (by simp)).1.all; obtain ⟨q3a, q3b, q3c, q3d, q3e, q3f, q3g, q3h, q3i, q3j⟩ := (hSw.res (P10, rw_) (by simp)).1.all; obtain ⟨q4a, q4b, q4c, q4d, q4e, q4f, q4g, q4h, q4i, q4j⟩ := (hSw.res (w.heap.size, n) (by simp)).1.all; obtain ⟨q5a, q5b, q5c, q5d, q5e, q5f, q5g, q5h, q5i, q5j⟩ := (hSw.res (w.heap.size + 1, a) (by simp)).1.all; obtain ⟨q6a, q6b, q6c, q6d, q6e, q6f, q6g, q6h, q6i, q6j⟩ := (hSw.res (w.heap.size + 1 + 1, b) (by simp)).1.all; go_simp; try with_reducible rfl)
  try simp only [Act.put, List.setIfInBounds_toArray, List.set_cons_zero, List.set_cons_succ]
  refine wpAnyH_ready (rs := [2]) (by kernel_rfl) (by simp) ?_
  refine AllReadyH.cons (o := { dst := some 53, op := Op.call { callee := Callee.value (Operand.func 19), args := #[Operand.tmp 51, Operand.tmp 52], argTypes := #[26, 26] }, type := 4, pos := "law.go:54", after := #[{ on := 0, ground := Ground.data }, { on := 1, ground := Ground.data }], guard := none }) (by kernel_rfl) (fun K hK => ?_) AllReadyH.nil
  rw [if_pos (by kernel_rfl)]
  go_simp
  go_wp2_with fail
  refine (C2.out _ hHeld).mono ?_
  rintro e W2 ⟨rfl, hb⟩
  have hM := hHeld.on hb
  refine hK.out _ _ hM (fun _ => ?_)
  clear hK K hHeld hb
  have hHeld := hM
  clear hM
  try simp only [Act.put, List.setIfInBounds_toArray, List.set_cons_zero, List.set_cons_succ]
  refine wpAnyH_take (i := 3) (v := ?_) (oi := { dst := some 54, op := Op.move (Operand.tmp 53), type := 4, pos := "law.go:54", after := #[{ on := 2, ground := Ground.data }, { on := 2, ground := Ground.chain }], guard := none }) (by kernel_rfl) (by kernel_rfl) (by kernel_rfl) (by kernel_rfl) (fun _ _ _ h => h) (Or.inl ⟨by kernel_rfl, ?hy3⟩) (by assumption) ?_
  case hy3 => (intro wI hSw; (try dsimp only at hSw); obtain ⟨q0a, q0b, q0c, q0d, q0e, q0f, q0g, q0h, q0i, q0j⟩ := (hSw.res (P7, rx) (by simp)).1.all; obtain ⟨q1a, q1b, q1c, q1d, q1e, q1f, q1g, q1h, q1i, q1j⟩ := (hSw.res (P8, ry) (by simp)).1.all; obtain ⟨q2a, q2b, q2c, q2d, q2e, q2f, q2g, q2h, q2i, q2j⟩ := (hSw.res (P9, rz) (by simp)).1.all; obtain ⟨q3a, q3b, q3c, q3d, q3e, q3f, q3g, q3h, q3i, q3j⟩ := (hSw.res (P10, rw_) (by simp)).1.all; obtain ⟨q4a, q4b, q4c, q4d, q4e, q4f, q4g, q4h, q4i, q4j⟩ := (hSw.res (w.heap.size, n) (by simp)).1.all; obtain ⟨q5a, q5b, q5c, q5d, q5e, q5f, q5g, q5h, q5i, q5j⟩ := (hSw.res (w.heap.size + 1, a) (by simp)).1.all; obtain ⟨q6a, q6b, q6c, q6d, q6e, q6f, q6g, q6h, q6i, q6j⟩ := (hSw.res (w.heap.size + 1 + 1, b) (by simp)).1.all; go_simp; try with_reducible rfl)
  try simp only [Act.put, List.setIfInBounds_toArray, List.set_cons_zero, List.set_cons_succ]
  refine wpAnyH_take (i := 4) (v := ?_) (oi := { dst := some 55, op := Op.fieldAddr 26 (Operand.tmp 9) 2, type := 0, pos := "law.go:54", after := #[{ on := 3, ground := Ground.guard }], guard := some (3, true) }) (by kernel_rfl) (by kernel_rfl) (by kernel_rfl) (by kernel_rfl) (fun _ _ _ h => h) (Or.inl ⟨by kernel_rfl, ?hy4⟩) (by assumption) ?_
  case hy4 => (intro wI hSw; (try dsimp only at hSw); obtain ⟨q0a, q0b, q0c, q0d, q0e, q0f, q0g, q0h, q0i, q0j⟩ := (hSw.res (P7, rx) (by simp)).1.all; obtain ⟨q1a, q1b, q1c, q1d, q1e, q1f, q1g, q1h, q1i, q1j⟩ := (hSw.res (P8, ry) (by simp)).1.all; obtain ⟨q2a, q2b, q2c, q2d, q2e, q2f, q2g, q2h, q2i, q2j⟩ := (hSw.res (P9, rz) (by simp)).1.all; obtain ⟨q3a, q3b, q3c, q3d, q3e, q3f, q3g, q3h, q3i, q3j⟩ := (hSw.res (P10, rw_) (by simp)).1.all; obtain ⟨q4a, q4b, q4c, q4d, q4e, q4f, q4g, q4h, q4i, q4j⟩ := (hSw.res (w.heap.size, n) (by simp)).1.all; obtain ⟨q5a, q5b, q5c, q5d, q5e, q5f, q5g, q5h, q5i, q5j⟩ := (hSw.res (w.heap.size + 1, a) (by simp)).1.all; obtain ⟨q6a, q6b, q6c, q6d, q6e, q6f, q6g, q6h, q6i, q6j⟩ := (hSw.res (w.heap.size + 1 + 1, b) (by simp)).1.all; go_simp; try with_reducible rfl)
  try simp only [Act.put, List.setIfInBounds_toArray, List.set_cons_zero, List.set_cons_succ]
  refine wpAnyH_take (i := 5) (v := ?_) (oi := { dst := some 56, op := Op.load 22 (Operand.tmp 55), type := 22, pos := "law.go:54", after := #[{ on := 4, ground := Ground.data }, { on := 3, ground := Ground.guard }], guard := some (3, true) }) (by kernel_rfl) (by kernel_rfl) (by kernel_rfl) (by kernel_rfl) (fun _ _ _ h => h) (Or.inl ⟨by kernel_rfl, ?hy5⟩) (by assumption) ?_
  case hy5 => (intro wI hSw; (try dsimp only at hSw); obtain ⟨q0a, q0b, q0c, q0d, q0e, q0f, q0g, q0h, q0i, q0j⟩ := (hSw.res (P7, rx) (by simp)).1.all; obtain ⟨q1a, q1b, q1c, q1d, q1e, q1f, q1g, q1h, q1i, q1j⟩ := (hSw.res (P8, ry) (by simp)).1.all; obtain ⟨q2a, q2b, q2c, q2d, q2e, q2f, q2g, q2h, q2i, q2j⟩ := (hSw.res (P9, rz) (by simp)).1.all; obtain ⟨q3a, q3b, q3c, q3d, q3e, q3f, q3g, q3h, q3i, q3j⟩ := (hSw.res (P10, rw_) (by simp)).1.all; obtain ⟨q4a, q4b, q4c, q4d, q4e, q4f, q4g, q4h, q4i, q4j⟩ := (hSw.res (w.heap.size, n) (by simp)).1.all; obtain ⟨q5a, q5b, q5c, q5d, q5e, q5f, q5g, q5h, q5i, q5j⟩ := (hSw.res (w.heap.size + 1, a) (by simp)).1.all; obtain ⟨q6a, q6b, q6c, q6d, q6e, q6f, q6g, q6h, q6i, q6j⟩ := (hSw.res (w.heap.size + 1 + 1, b) (by simp)).1.all; go_simp; try with_reducible rfl)
  try simp only [Act.put, List.setIfInBounds_toArray, List.set_cons_zero, List.set_cons_succ]
  refine wpAnyH_take (i := 6) (v := ?_) (oi := { dst := some 57, op := Op.call { callee := Callee.builtin Builtin.len, args := #[Operand.tmp 56], argTypes := #[22] }, type := 3, pos := "law.go:54", after := #[{ on := 5, ground := Ground.data }, { on := 3, ground := Ground.guard }], guard := some (3, true) }) (by kernel_rfl) (by kernel_rfl) (by kernel_rfl) (by kernel_rfl) (fun _ _ _ h => h) (Or.inl ⟨by kernel_rfl, ?hy6⟩) (by assumption) ?_
  case hy6 => (intro wI hSw; (try dsimp only at hSw); obtain ⟨q0a, q0b, q0c, q0d, q0e, q0f, q0g, q0h, q0i, q0j⟩ := (hSw.res (P7, rx) (by simp)).1.all; obtain ⟨q1a, q1b, q1c, q1d, q1e, q1f, q1g, q1h, q1i, q1j⟩ := (hSw.res (P8, ry) (by simp)).1.all; obtain ⟨q2a, q2b, q2c, q2d, q2e, q2f, q2g, q2h, q2i, q2j⟩ := (hSw.res (P9, rz) (by simp)).1.all; obtain ⟨q3a, q3b, q3c, q3d, q3e, q3f, q3g, q3h, q3i, q3j⟩ := (hSw.res (P10, rw_) (by simp)).1.all; obtain ⟨q4a, q4b, q4c, q4d, q4e, q4f, q4g, q4h, q4i, q4j⟩ := (hSw.res (w.heap.size, n) (by simp)).1.all; obtain ⟨q5a, q5b, q5c, q5d, q5e, q5f, q5g, q5h, q5i, q5j⟩ := (hSw.res (w.heap.size + 1, a) (by simp)).1.all; obtain ⟨q6a, q6b, q6c, q6d, q6e, q6f, q6g, q6h, q6i, q6j⟩ := (hSw.res (w.heap.size + 1 + 1, b) (by simp)).1.all; go_simp; try with_reducible rfl)
  try simp only [Act.put, List.setIfInBounds_toArray, List.set_cons_zero, List.set_cons_succ]
  refine wpAnyH_take (i := 7) (v := ?_) (oi := { dst := some 58, op := Op.fieldAddr 26 (Operand.tmp 10) 2, type := 0, pos := "law.go:54", after := #[{ on := 3, ground := Ground.guard }], guard := some (3, true) }) (by kernel_rfl) (by kernel_rfl) (by kernel_rfl) (by kernel_rfl) (fun _ _ _ h => h) (Or.inl ⟨by kernel_rfl, ?hy7⟩) (by assumption) ?_
  case hy7 => (intro wI hSw; (try dsimp only at hSw); obtain ⟨q0a, q0b, q0c, q0d, q0e, q0f, q0g, q0h, q0i, q0j⟩ := (hSw.res (P7, rx) (by simp)).1.all; obtain ⟨q1a, q1b, q1c, q1d, q1e, q1f, q1g, q1h, q1i, q1j⟩ := (hSw.res (P8, ry) (by simp)).1.all; obtain ⟨q2a, q2b, q2c, q2d, q2e, q2f, q2g, q2h, q2i, q2j⟩ := (hSw.res (P9, rz) (by simp)).1.all; obtain ⟨q3a, q3b, q3c, q3d, q3e, q3f, q3g, q3h, q3i, q3j⟩ := (hSw.res (P10, rw_) (by simp)).1.all; obtain ⟨q4a, q4b, q4c, q4d, q4e, q4f, q4g, q4h, q4i, q4j⟩ := (hSw.res (w.heap.size, n) (by simp)).1.all; obtain ⟨q5a, q5b, q5c, q5d, q5e, q5f, q5g, q5h, q5i, q5j⟩ := (hSw.res (w.heap.size + 1, a) (by simp)).1.all; obtain ⟨q6a, q6b, q6c, q6d, q6e, q6f, q6g, q6h, q6i, q6j⟩ := (hSw.res (w.heap.size + 1 + 1, b) (by simp)).1.all; go_simp; try with_reducible rfl)
  try simp only [Act.put, List.setIfInBounds_toArray, List.set_cons_zero, List.set_cons_succ]
  refine wpAnyH_take (i := 8) (v := ?_) (oi := { dst := some 59, op := Op.load 22 (Operand.tmp 58), type := 22, pos := "law.go:54", after := #[{ on := 7, ground := Ground.data }, { on := 3, ground := Ground.guard }], guard := some (3, true) }) (by kernel_rfl) (by kernel_rfl) (by kernel_rfl) (by kernel_rfl) (fun _ _ _ h => h) (Or.inl ⟨by kernel_rfl, ?hy8⟩) (by assumption) ?_
  case hy8 => (intro wI hSw; (try dsimp only at hSw); obtain ⟨q0a, q0b, q0c, q0d, q0e, q0f, q0g, q0h, q0i, q0j⟩ := (hSw.res (P7, rx) (by simp)).1.all; obtain ⟨q1a, q1b, q1c, q1d, q1e, q1f, q1g, q1h, q1i, q1j⟩ := (hSw.res (P8, ry) (by simp)).1.all; obtain ⟨q2a, q2b, q2c, q2d, q2e, q2f, q2g, q2h, q2i, q2j⟩ := (hSw.res (P9, rz) (by simp)).1.all; obtain ⟨q3a, q3b, q3c, q3d, q3e, q3f, q3g, q3h, q3i, q3j⟩ := (hSw.res (P10, rw_) (by simp)).1.all; obtain ⟨q4a, q4b, q4c, q4d, q4e, q4f, q4g, q4h, q4i, q4j⟩ := (hSw.res (w.heap.size, n) (by simp)).1.all; obtain ⟨q5a, q5b, q5c, q5d, q5e, q5f, q5g, q5h, q5i, q5j⟩ := (hSw.res (w.heap.size + 1, a) (by simp)).1.all; obtain ⟨q6a, q6b, q6c, q6d, q6e, q6f, q6g, q6h, q6i, q6j⟩ := (hSw.res (w.heap.size + 1 + 1, b) (by simp)).1.all; go_simp; try with_reducible rfl)
  try simp only [Act.put, List.setIfInBounds_toArray, List.set_cons_zero, List.set_cons_succ]
  refine wpAnyH_take (i := 9) (v := ?_) (oi := { dst := some 60, op := Op.call { callee := Callee.builtin Builtin.len, args := #[Operand.tmp 59], argTypes := #[22] }, type := 3, pos := "law.go:54", after := #[{ on := 8, ground := Ground.data }, { on := 3, ground := Ground.guard }], guard := some (3, true) }) (by kernel_rfl) (by kernel_rfl) (by kernel_rfl) (by kernel_rfl) (fun _ _ _ h => h) (Or.inl ⟨by kernel_rfl, ?hy9⟩) (by assumption) ?_
  case hy9 => (intro wI hSw; (try dsimp only at hSw); obtain ⟨q0a, q0b, q0c, q0d, q0e, q0f, q0g, q0h, q0i, q0j⟩ := (hSw.res (P7, rx) (by simp)).1.all; obtain ⟨q1a, q1b, q1c, q1d, q1e, q1f, q1g, q1h, q1i, q1j⟩ := (hSw.res (P8, ry) (by simp)).1.all; obtain ⟨q2a, q2b, q2c, q2d, q2e, q2f, q2g, q2h, q2i, q2j⟩ := (hSw.res (P9, rz) (by simp)).1.all; obtain ⟨q3a, q3b, q3c, q3d, q3e, q3f, q3g, q3h, q3i, q3j⟩ := (hSw.res (P10, rw_) (by simp)).1.all; obtain ⟨q4a, q4b, q4c, q4d, q4e, q4f, q4g, q4h, q4i, q4j⟩ := (hSw.res (w.heap.size, n) (by simp)).1.all; obtain ⟨q5a, q5b, q5c, q5d, q5e, q5f, q5g, q5h, q5i, q5j⟩ := (hSw.res (w.heap.size + 1, a) (by simp)).1.all; obtain ⟨q6a, q6b, q6c, q6d, q6e, q6f, q6g, q6h, q6i, q6j⟩ := (hSw.res (w.heap.size + 1 + 1, b) (by simp)).1.all; go_simp; try with_reducible rfl)
  try simp only [Act.put, List.setIfInBounds_toArray, List.set_cons_zero, List.set_cons_succ]
  refine wpAnyH_take (i := 10) (v := ?_) (oi := { dst := some 61, op := Op.binOp BinOp.eql 3 (Operand.tmp 57) (Operand.tmp 60) 3, type := 4, pos := "law.go:54", after := #[{ on := 6, ground := Ground.data }, { on := 9, ground := Ground.data }, { on := 3, ground := Ground.guard }], guard := some (3, true) }) (by kernel_rfl) (by kernel_rfl) (by kernel_rfl) (by kernel_rfl) (fun _ _ _ h => h) (Or.inl ⟨by kernel_rfl, ?hy10⟩) (by assumption) ?_
  case hy10 => (intro wI hSw; (try dsimp only at hSw); obtain ⟨q0a, q0b, q0c, q0d, q0e, q0f, q0g, q0h, q0i, q0j⟩ := (hSw.res (P7, rx) (by simp)).1.all; obtain ⟨q1a, q1b, q1c, q1d, q1e, q1f, q1g, q1h, q1i, q1j⟩ := (hSw.res (P8, ry) (by simp)).1.all; obtain ⟨q2a, q2b, q2c, q2d, q2e, q2f, q2g, q2h, q2i, q2j⟩ := (hSw.res (P9, rz) (by simp)).1.all; obtain ⟨q3a, q3b, q3c, q3d, q3e, q3f, q3g, q3h, q3i, q3j⟩ := (hSw.res (P10, rw_) (by simp)).1.all; obtain ⟨q4a, q4b, q4c, q4d, q4e, q4f, q4g, q4h, q4i, q4j⟩ := (hSw.res (w.heap.size, n) (by simp)).1.all; obtain ⟨q5a, q5b, q5c, q5d, q5e, q5f, q5g, q5h, q5i, q5j⟩ := (hSw.res (w.heap.size + 1, a) (by simp)).1.all; obtain ⟨q6a, q6b, q6c, q6d, q6e, q6f, q6g, q6h, q6i, q6j⟩ := (hSw.res (w.heap.size + 1 + 1, b) (by simp)).1.all; go_simp; try with_reducible rfl)
  try simp only [Act.put, List.setIfInBounds_toArray, List.set_cons_zero, List.set_cons_succ]
  refine wpAnyH_take (i := 11) (v := ?_) (oi := { dst := some 62, op := Op.pick (Operand.tmp 54) (Operand.tmp 61) (Operand.const (Value.bool false)), type := 4, pos := "law.go:54", after := #[{ on := 3, ground := Ground.data }, { on := 10, ground := Ground.data }], guard := none }) (by kernel_rfl) (by kernel_rfl) (by kernel_rfl) (by kernel_rfl) (fun _ _ _ h => h) (Or.inl ⟨by kernel_rfl, ?hy11⟩) (by assumption) ?_
  case hy11 => (intro wI hSw; (try dsimp only at hSw); obtain ⟨q0a, q0b, q0c, q0d, q0e, q0f, q0g, q0h, q0i, q0j⟩ := (hSw.res (P7, rx) (by simp)).1.all; obtain ⟨q1a, q1b, q1c, q1d, q1e, q1f, q1g, q1h, q1i, q1j⟩ := (hSw.res (P8, ry) (by simp)).1.all; obtain ⟨q2a, q2b, q2c, q2d, q2e, q2f, q2g, q2h, q2i, q2j⟩ := (hSw.res (P9, rz) (by simp)).1.all; obtain ⟨q3a, q3b, q3c, q3d, q3e, q3f, q3g, q3h, q3i, q3j⟩ := (hSw.res (P10, rw_) (by simp)).1.all; obtain ⟨q4a, q4b, q4c, q4d, q4e, q4f, q4g, q4h, q4i, q4j⟩ := (hSw.res (w.heap.size, n) (by simp)).1.all; obtain ⟨q5a, q5b, q5c, q5d, q5e, q5f, q5g, q5h, q5i, q5j⟩ := (hSw.res (w.heap.size + 1, a) (by simp)).1.all; obtain ⟨q6a, q6b, q6c, q6d, q6e, q6f, q6g, q6h, q6i, q6j⟩ := (hSw.res (w.heap.size + 1 + 1, b) (by simp)).1.all; go_simp; try with_reducible rfl)
  try simp only [Act.put, List.setIfInBounds_toArray, List.set_cons_zero, List.set_cons_succ]
  refine wpAnyH_take (i := 12) (v := ?_) (oi := { dst := some 63, op := Op.move (Operand.tmp 62), type := 4, pos := "law.go:54", after := #[{ on := 11, ground := Ground.data }, { on := 3, ground := Ground.chain }], guard := none }) (by kernel_rfl) (by kernel_rfl) (by kernel_rfl) (by kernel_rfl) (fun _ _ _ h => h) (Or.inl ⟨by kernel_rfl, ?hy12⟩) (by assumption) ?_
  case hy12 => (intro wI hSw; (try dsimp only at hSw); obtain ⟨q0a, q0b, q0c, q0d, q0e, q0f, q0g, q0h, q0i, q0j⟩ := (hSw.res (P7, rx) (by simp)).1.all; obtain ⟨q1a, q1b, q1c, q1d, q1e, q1f, q1g, q1h, q1i, q1j⟩ := (hSw.res (P8, ry) (by simp)).1.all; obtain ⟨q2a, q2b, q2c, q2d, q2e, q2f, q2g, q2h, q2i, q2j⟩ := (hSw.res (P9, rz) (by simp)).1.all; obtain ⟨q3a, q3b, q3c, q3d, q3e, q3f, q3g, q3h, q3i, q3j⟩ := (hSw.res (P10, rw_) (by simp)).1.all; obtain ⟨q4a, q4b, q4c, q4d, q4e, q4f, q4g, q4h, q4i, q4j⟩ := (hSw.res (w.heap.size, n) (by simp)).1.all; obtain ⟨q5a, q5b, q5c, q5d, q5e, q5f, q5g, q5h, q5i, q5j⟩ := (hSw.res (w.heap.size + 1, a) (by simp)).1.all; obtain ⟨q6a, q6b, q6c, q6d, q6e, q6f, q6g, q6h, q6i, q6j⟩ := (hSw.res (w.heap.size + 1 + 1, b) (by simp)).1.all; go_simp; try with_reducible rfl)
  try simp only [Act.put, List.setIfInBounds_toArray, List.set_cons_zero, List.set_cons_succ]
  refine wpAnyH_take (i := 13) (v := ?_) (oi := { dst := some 64, op := Op.fieldAddr 26 (Operand.tmp 9) 3, type := 0, pos := "law.go:54", after := #[{ on := 12, ground := Ground.guard }], guard := some (12, true) }) (by kernel_rfl) (by kernel_rfl) (by kernel_rfl) (by kernel_rfl) (fun _ _ _ h => h) (Or.inl ⟨by kernel_rfl, ?hy13⟩) (by assumption) ?_
  case hy13 => (intro wI hSw; (try dsimp only at hSw); obtain ⟨q0a, q0b, q0c, q0d, q0e, q0f, q0g, q0h, q0i, q0j⟩ := (hSw.res (P7, rx) (by simp)).1.all; obtain ⟨q1a, q1b, q1c, q1d, q1e, q1f, q1g, q1h, q1i, q1j⟩ := (hSw.res (P8, ry) (by simp)).1.all; obtain ⟨q2a, q2b, q2c, q2d, q2e, q2f, q2g, q2h, q2i, q2j⟩ := (hSw.res (P9, rz) (by simp)).1.all; obtain ⟨q3a, q3b, q3c, q3d, q3e, q3f, q3g, q3h, q3i, q3j⟩ := (hSw.res (P10, rw_) (by simp)).1.all; obtain ⟨q4a, q4b, q4c, q4d, q4e, q4f, q4g, q4h, q4i, q4j⟩ := (hSw.res (w.heap.size, n) (by simp)).1.all; obtain ⟨q5a, q5b, q5c, q5d, q5e, q5f, q5g, q5h, q5i, q5j⟩ := (hSw.res (w.heap.size + 1, a) (by simp)).1.all; obtain ⟨q6a, q6b, q6c, q6d, q6e, q6f, q6g, q6h, q6i, q6j⟩ := (hSw.res (w.heap.size + 1 + 1, b) (by simp)).1.all; go_simp; try with_reducible rfl)
  try simp only [Act.put, List.setIfInBounds_toArray, List.set_cons_zero, List.set_cons_succ]
  refine wpAnyH_take (i := 14) (v := ?_) (oi := { dst := some 65, op := Op.load 23 (Operand.tmp 64), type := 23, pos := "law.go:54", after := #[{ on := 13, ground := Ground.data }, { on := 12, ground := Ground.guard }], guard := some (12, true) }) (by kernel_rfl) (by kernel_rfl) (by kernel_rfl) (by kernel_rfl) (fun _ _ _ h => h) (Or.inl ⟨by kernel_rfl, ?hy14⟩) (by assumption) ?_
  case hy14 => (intro wI hSw; (try dsimp only at hSw); obtain ⟨q0a, q0b, q0c, q0d, q0e, q0f, q0g, q0h, q0i, q0j⟩ := (hSw.res (P7, rx) (by simp)).1.all; obtain ⟨q1a, q1b, q1c, q1d, q1e, q1f, q1g, q1h, q1i, q1j⟩ := (hSw.res (P8, ry) (by simp)).1.all; obtain ⟨q2a, q2b, q2c, q2d, q2e, q2f, q2g, q2h, q2i, q2j⟩ := (hSw.res (P9, rz) (by simp)).1.all; obtain ⟨q3a, q3b, q3c, q3d, q3e, q3f, q3g, q3h, q3i, q3j⟩ := (hSw.res (P10, rw_) (by simp)).1.all; obtain ⟨q4a, q4b, q4c, q4d, q4e, q4f, q4g, q4h, q4i, q4j⟩ := (hSw.res (w.heap.size, n) (by simp)).1.all; obtain ⟨q5a, q5b, q5c, q5d, q5e, q5f, q5g, q5h, q5i, q5j⟩ := (hSw.res (w.heap.size + 1, a) (by simp)).1.all; obtain ⟨q6a, q6b, q6c, q6d, q6e, q6f, q6g, q6h, q6i, q6j⟩ := (hSw.res (w.heap.size + 1 + 1, b) (by simp)).1.all; go_simp; try with_reducible rfl)
  try simp only [Act.put, List.setIfInBounds_toArray, List.set_cons_zero, List.set_cons_succ]
  refine wpAnyH_take (i := 15) (v := ?_) (oi := { dst := some 66, op := Op.fieldAddr 26 (Operand.tmp 10) 3, type := 0, pos := "law.go:54", after := #[{ on := 12, ground := Ground.guard }], guard := some (12, true) }) (by kernel_rfl) (by kernel_rfl) (by kernel_rfl) (by kernel_rfl) (fun _ _ _ h => h) (Or.inl ⟨by kernel_rfl, ?hy15⟩) (by assumption) ?_
  case hy15 => (intro wI hSw; (try dsimp only at hSw); obtain ⟨q0a, q0b, q0c, q0d, q0e, q0f, q0g, q0h, q0i, q0j⟩ := (hSw.res (P7, rx) (by simp)).1.all; obtain ⟨q1a, q1b, q1c, q1d, q1e, q1f, q1g, q1h, q1i, q1j⟩ := (hSw.res (P8, ry) (by simp)).1.all; obtain ⟨q2a, q2b, q2c, q2d, q2e, q2f, q2g, q2h, q2i, q2j⟩ := (hSw.res (P9, rz) (by simp)).1.all; obtain ⟨q3a, q3b, q3c, q3d, q3e, q3f, q3g, q3h, q3i, q3j⟩ := (hSw.res (P10, rw_) (by simp)).1.all; obtain ⟨q4a, q4b, q4c, q4d, q4e, q4f, q4g, q4h, q4i, q4j⟩ := (hSw.res (w.heap.size, n) (by simp)).1.all; obtain ⟨q5a, q5b, q5c, q5d, q5e, q5f, q5g, q5h, q5i, q5j⟩ := (hSw.res (w.heap.size + 1, a) (by simp)).1.all; obtain ⟨q6a, q6b, q6c, q6d, q6e, q6f, q6g, q6h, q6i, q6j⟩ := (hSw.res (w.heap.size + 1 + 1, b) (by simp)).1.all; go_simp; try with_reducible rfl)
  try simp only [Act.put, List.setIfInBounds_toArray, List.set_cons_zero, List.set_cons_succ]
  refine wpAnyH_take (i := 16) (v := ?_) (oi := { dst := some 67, op := Op.load 23 (Operand.tmp 66), type := 23, pos := "law.go:54", after := #[{ on := 15, ground := Ground.data }, { on := 12, ground := Ground.guard }], guard := some (12, true) }) (by kernel_rfl) (by kernel_rfl) (by kernel_rfl) (by kernel_rfl) (fun _ _ _ h => h) (Or.inl ⟨by kernel_rfl, ?hy16⟩) (by assumption) ?_
  case hy16 => (intro wI hSw; (try dsimp only at hSw); obtain ⟨q0a, q0b, q0c, q0d, q0e, q0f, q0g, q0h, q0i, q0j⟩ := (hSw.res (P7, rx) (by simp)).1.all; obtain ⟨q1a, q1b, q1c, q1d, q1e, q1f, q1g, q1h, q1i, q1j⟩ := (hSw.res (P8, ry) (by simp)).1.all; obtain ⟨q2a, q2b, q2c, q2d, q2e, q2f, q2g, q2h, q2i, q2j⟩ := (hSw.res (P9, rz) (by simp)).1.all; obtain ⟨q3a, q3b, q3c, q3d, q3e, q3f, q3g, q3h, q3i, q3j⟩ := (hSw.res (P10, rw_) (by simp)).1.all; obtain ⟨q4a, q4b, q4c, q4d, q4e, q4f, q4g, q4h, q4i, q4j⟩ := (hSw.res (w.heap.size, n) (by simp)).1.all; obtain ⟨q5a, q5b, q5c, q5d, q5e, q5f, q5g, q5h, q5i, q5j⟩ := (hSw.res (w.heap.size + 1, a) (by simp)).1.all; obtain ⟨q6a, q6b, q6c, q6d, q6e, q6f, q6g, q6h, q6i, q6j⟩ := (hSw.res (w.heap.size + 1 + 1, b) (by simp)).1.all; go_simp; try with_reducible rfl)
  try simp only [Act.put, List.setIfInBounds_toArray, List.set_cons_zero, List.set_cons_succ]
  refine wpAnyH_ready (rs := [17]) (by kernel_rfl) (by simp) ?_
  refine AllReadyH.cons (o := { dst := some 68, op := Op.call { callee := Callee.value (Operand.func 24), args := #[Operand.tmp 65, Operand.tmp 67], argTypes := #[23, 23] }, type := 4, pos := "law.go:54", after := #[{ on := 14, ground := Ground.data }, { on := 16, ground := Ground.data }, { on := 12, ground := Ground.chain }, { on := 12, ground := Ground.guard }], guard := some (12, true) }) (by kernel_rfl) (fun K hK => ?_) AllReadyH.nil
  rw [if_pos (by kernel_rfl)]
  go_simp
  go_wp2_with fail
  refine (C17.out _ hHeld).mono ?_
  rintro e W17 ⟨rfl, hb⟩
  have hM := hHeld.on hb
  refine hK.out _ _ hM (fun _ => ?_)
  clear hK K hHeld hb
  have hHeld := hM
  clear hM
  try simp only [Act.put, List.setIfInBounds_toArray, List.set_cons_zero, List.set_cons_succ]
  refine wpAnyH_take (i := 18) (v := ?_) (oi := { dst := some 69, op := Op.pick (Operand.tmp 63) (Operand.tmp 68) (Operand.const (Value.bool false)), type := 4, pos := "law.go:54", after := #[{ on := 12, ground := Ground.data }, { on := 17, ground := Ground.data }], guard := none }) (by kernel_rfl) (by kernel_rfl) (by kernel_rfl) (by kernel_rfl) (fun _ _ _ h => h) (Or.inl ⟨by kernel_rfl, ?hy18⟩) (by assumption) ?_
  case hy18 => (intro wI hSw; (try dsimp only at hSw); obtain ⟨q0a, q0b, q0c, q0d, q0e, q0f, q0g, q0h, q0i, q0j⟩ := (hSw.res (P7, rx) (by simp)).1.all; obtain ⟨q1a, q1b, q1c, q1d, q1e, q1f, q1g, q1h, q1i, q1j⟩ := (hSw.res (P8, ry) (by simp)).1.all; obtain ⟨q2a, q2b, q2c, q2d, q2e, q2f, q2g, q2h, q2i, q2j⟩ := (hSw.res (P9, rz) (by simp)).1.all; obtain ⟨q3a, q3b, q3c, q3d, q3e, q3f, q3g, q3h, q3i, q3j⟩ := (hSw.res (P10, rw_) (by simp)).1.all; obtain ⟨q4a, q4b, q4c, q4d, q4e, q4f, q4g, q4h, q4i, q4j⟩ := (hSw.res (w.heap.size, n) (by simp)).1.all; obtain ⟨q5a, q5b, q5c, q5d, q5e, q5f, q5g, q5h, q5i, q5j⟩ := (hSw.res (w.heap.size + 1, a) (by simp)).1.all; obtain ⟨q6a, q6b, q6c, q6d, q6e, q6f, q6g, q6h, q6i, q6j⟩ := (hSw.res (w.heap.size + 1 + 1, b) (by simp)).1.all; go_simp; try with_reducible rfl)
  try simp only [Act.put, List.setIfInBounds_toArray, List.set_cons_zero, List.set_cons_succ]
  refine wpAnyH_take (i := 19) (v := ?_) (oi := { dst := some 70, op := Op.move (Operand.tmp 69), type := 4, pos := "law.go:54", after := #[{ on := 18, ground := Ground.data }, { on := 17, ground := Ground.chain }], guard := none }) (by kernel_rfl) (by kernel_rfl) (by kernel_rfl) (by kernel_rfl) (fun _ _ _ h => h) (Or.inl ⟨by kernel_rfl, ?hy19⟩) (by assumption) ?_
  case hy19 => (intro wI hSw; (try dsimp only at hSw); obtain ⟨q0a, q0b, q0c, q0d, q0e, q0f, q0g, q0h, q0i, q0j⟩ := (hSw.res (P7, rx) (by simp)).1.all; obtain ⟨q1a, q1b, q1c, q1d, q1e, q1f, q1g, q1h, q1i, q1j⟩ := (hSw.res (P8, ry) (by simp)).1.all; obtain ⟨q2a, q2b, q2c, q2d, q2e, q2f, q2g, q2h, q2i, q2j⟩ := (hSw.res (P9, rz) (by simp)).1.all; obtain ⟨q3a, q3b, q3c, q3d, q3e, q3f, q3g, q3h, q3i, q3j⟩ := (hSw.res (P10, rw_) (by simp)).1.all; obtain ⟨q4a, q4b, q4c, q4d, q4e, q4f, q4g, q4h, q4i, q4j⟩ := (hSw.res (w.heap.size, n) (by simp)).1.all; obtain ⟨q5a, q5b, q5c, q5d, q5e, q5f, q5g, q5h, q5i, q5j⟩ := (hSw.res (w.heap.size + 1, a) (by simp)).1.all; obtain ⟨q6a, q6b, q6c, q6d, q6e, q6f, q6g, q6h, q6i, q6j⟩ := (hSw.res (w.heap.size + 1 + 1, b) (by simp)).1.all; go_simp; try with_reducible rfl)
  try simp only [Act.put, List.setIfInBounds_toArray, List.set_cons_zero, List.set_cons_succ]
  refine wpAnyH_take (i := 20) (v := ?_) (oi := { dst := some 71, op := Op.fieldAddr 26 (Operand.tmp 9) 1, type := 0, pos := "law.go:54", after := #[{ on := 19, ground := Ground.guard }], guard := some (19, true) }) (by kernel_rfl) (by kernel_rfl) (by kernel_rfl) (by kernel_rfl) (fun _ _ _ h => h) (Or.inl ⟨by kernel_rfl, ?hy20⟩) (by assumption) ?_
  case hy20 => (intro wI hSw; (try dsimp only at hSw); obtain ⟨q0a, q0b, q0c, q0d, q0e, q0f, q0g, q0h, q0i, q0j⟩ := (hSw.res (P7, rx) (by simp)).1.all; obtain ⟨q1a, q1b, q1c, q1d, q1e, q1f, q1g, q1h, q1i, q1j⟩ := (hSw.res (P8, ry) (by simp)).1.all; obtain ⟨q2a, q2b, q2c, q2d, q2e, q2f, q2g, q2h, q2i, q2j⟩ := (hSw.res (P9, rz) (by simp)).1.all; obtain ⟨q3a, q3b, q3c, q3d, q3e, q3f, q3g, q3h, q3i, q3j⟩ := (hSw.res (P10, rw_) (by simp)).1.all; obtain ⟨q4a, q4b, q4c, q4d, q4e, q4f, q4g, q4h, q4i, q4j⟩ := (hSw.res (w.heap.size, n) (by simp)).1.all; obtain ⟨q5a, q5b, q5c, q5d, q5e, q5f, q5g, q5h, q5i, q5j⟩ := (hSw.res (w.heap.size + 1, a) (by simp)).1.all; obtain ⟨q6a, q6b, q6c, q6d, q6e, q6f, q6g, q6h, q6i, q6j⟩ := (hSw.res (w.heap.size + 1 + 1, b) (by simp)).1.all; go_simp; try with_reducible rfl)
  try simp only [Act.put, List.setIfInBounds_toArray, List.set_cons_zero, List.set_cons_succ]
  refine wpAnyH_take (i := 21) (v := ?_) (oi := { dst := some 72, op := Op.load 3 (Operand.tmp 71), type := 3, pos := "law.go:54", after := #[{ on := 20, ground := Ground.data }, { on := 19, ground := Ground.guard }], guard := some (19, true) }) (by kernel_rfl) (by kernel_rfl) (by kernel_rfl) (by kernel_rfl) (fun _ _ _ h => h) (Or.inl ⟨by kernel_rfl, ?hy21⟩) (by assumption) ?_
  case hy21 => (intro wI hSw; (try dsimp only at hSw); obtain ⟨q0a, q0b, q0c, q0d, q0e, q0f, q0g, q0h, q0i, q0j⟩ := (hSw.res (P7, rx) (by simp)).1.all; obtain ⟨q1a, q1b, q1c, q1d, q1e, q1f, q1g, q1h, q1i, q1j⟩ := (hSw.res (P8, ry) (by simp)).1.all; obtain ⟨q2a, q2b, q2c, q2d, q2e, q2f, q2g, q2h, q2i, q2j⟩ := (hSw.res (P9, rz) (by simp)).1.all; obtain ⟨q3a, q3b, q3c, q3d, q3e, q3f, q3g, q3h, q3i, q3j⟩ := (hSw.res (P10, rw_) (by simp)).1.all; obtain ⟨q4a, q4b, q4c, q4d, q4e, q4f, q4g, q4h, q4i, q4j⟩ := (hSw.res (w.heap.size, n) (by simp)).1.all; obtain ⟨q5a, q5b, q5c, q5d, q5e, q5f, q5g, q5h, q5i, q5j⟩ := (hSw.res (w.heap.size + 1, a) (by simp)).1.all; obtain ⟨q6a, q6b, q6c, q6d, q6e, q6f, q6g, q6h, q6i, q6j⟩ := (hSw.res (w.heap.size + 1 + 1, b) (by simp)).1.all; go_simp; try with_reducible rfl)
  try simp only [Act.put, List.setIfInBounds_toArray, List.set_cons_zero, List.set_cons_succ]
  refine wpAnyH_take (i := 22) (v := ?_) (oi := { dst := some 73, op := Op.fieldAddr 26 (Operand.tmp 10) 1, type := 0, pos := "law.go:54", after := #[{ on := 19, ground := Ground.guard }], guard := some (19, true) }) (by kernel_rfl) (by kernel_rfl) (by kernel_rfl) (by kernel_rfl) (fun _ _ _ h => h) (Or.inl ⟨by kernel_rfl, ?hy22⟩) (by assumption) ?_
  case hy22 => (intro wI hSw; (try dsimp only at hSw); obtain ⟨q0a, q0b, q0c, q0d, q0e, q0f, q0g, q0h, q0i, q0j⟩ := (hSw.res (P7, rx) (by simp)).1.all; obtain ⟨q1a, q1b, q1c, q1d, q1e, q1f, q1g, q1h, q1i, q1j⟩ := (hSw.res (P8, ry) (by simp)).1.all; obtain ⟨q2a, q2b, q2c, q2d, q2e, q2f, q2g, q2h, q2i, q2j⟩ := (hSw.res (P9, rz) (by simp)).1.all; obtain ⟨q3a, q3b, q3c, q3d, q3e, q3f, q3g, q3h, q3i, q3j⟩ := (hSw.res (P10, rw_) (by simp)).1.all; obtain ⟨q4a, q4b, q4c, q4d, q4e, q4f, q4g, q4h, q4i, q4j⟩ := (hSw.res (w.heap.size, n) (by simp)).1.all; obtain ⟨q5a, q5b, q5c, q5d, q5e, q5f, q5g, q5h, q5i, q5j⟩ := (hSw.res (w.heap.size + 1, a) (by simp)).1.all; obtain ⟨q6a, q6b, q6c, q6d, q6e, q6f, q6g, q6h, q6i, q6j⟩ := (hSw.res (w.heap.size + 1 + 1, b) (by simp)).1.all; go_simp; try with_reducible rfl)
  try simp only [Act.put, List.setIfInBounds_toArray, List.set_cons_zero, List.set_cons_succ]
  refine wpAnyH_take (i := 23) (v := ?_) (oi := { dst := some 74, op := Op.load 3 (Operand.tmp 73), type := 3, pos := "law.go:54", after := #[{ on := 22, ground := Ground.data }, { on := 19, ground := Ground.guard }], guard := some (19, true) }) (by kernel_rfl) (by kernel_rfl) (by kernel_rfl) (by kernel_rfl) (fun _ _ _ h => h) (Or.inl ⟨by kernel_rfl, ?hy23⟩) (by assumption) ?_
  case hy23 => (intro wI hSw; (try dsimp only at hSw); obtain ⟨q0a, q0b, q0c, q0d, q0e, q0f, q0g, q0h, q0i, q0j⟩ := (hSw.res (P7, rx) (by simp)).1.all; obtain ⟨q1a, q1b, q1c, q1d, q1e, q1f, q1g, q1h, q1i, q1j⟩ := (hSw.res (P8, ry) (by simp)).1.all; obtain ⟨q2a, q2b, q2c, q2d, q2e, q2f, q2g, q2h, q2i, q2j⟩ := (hSw.res (P9, rz) (by simp)).1.all; obtain ⟨q3a, q3b, q3c, q3d, q3e, q3f, q3g, q3h, q3i, q3j⟩ := (hSw.res (P10, rw_) (by simp)).1.all; obtain ⟨q4a, q4b, q4c, q4d, q4e, q4f, q4g, q4h, q4i, q4j⟩ := (hSw.res (w.heap.size, n) (by simp)).1.all; obtain ⟨q5a, q5b, q5c, q5d, q5e, q5f, q5g, q5h, q5i, q5j⟩ := (hSw.res (w.heap.size + 1, a) (by simp)).1.all; obtain ⟨q6a, q6b, q6c, q6d, q6e, q6f, q6g, q6h, q6i, q6j⟩ := (hSw.res (w.heap.size + 1 + 1, b) (by simp)).1.all; go_simp; try with_reducible rfl)
  try simp only [Act.put, List.setIfInBounds_toArray, List.set_cons_zero, List.set_cons_succ]
  refine wpAnyH_take (i := 24) (v := ?_) (oi := { dst := some 75, op := Op.binOp BinOp.eql 3 (Operand.tmp 72) (Operand.tmp 74) 3, type := 4, pos := "law.go:54", after := #[{ on := 21, ground := Ground.data }, { on := 23, ground := Ground.data }, { on := 19, ground := Ground.guard }], guard := some (19, true) }) (by kernel_rfl) (by kernel_rfl) (by kernel_rfl) (by kernel_rfl) (fun _ _ _ h => h) (Or.inl ⟨by kernel_rfl, ?hy24⟩) (by assumption) ?_
  case hy24 => (intro wI hSw; (try dsimp only at hSw); obtain ⟨q0a, q0b, q0c, q0d, q0e, q0f, q0g, q0h, q0i, q0j⟩ := (hSw.res (P7, rx) (by simp)).1.all; obtain ⟨q1a, q1b, q1c, q1d, q1e, q1f, q1g, q1h, q1i, q1j⟩ := (hSw.res (P8, ry) (by simp)).1.all; obtain ⟨q2a, q2b, q2c, q2d, q2e, q2f, q2g, q2h, q2i, q2j⟩ := (hSw.res (P9, rz) (by simp)).1.all; obtain ⟨q3a, q3b, q3c, q3d, q3e, q3f, q3g, q3h, q3i, q3j⟩ := (hSw.res (P10, rw_) (by simp)).1.all; obtain ⟨q4a, q4b, q4c, q4d, q4e, q4f, q4g, q4h, q4i, q4j⟩ := (hSw.res (w.heap.size, n) (by simp)).1.all; obtain ⟨q5a, q5b, q5c, q5d, q5e, q5f, q5g, q5h, q5i, q5j⟩ := (hSw.res (w.heap.size + 1, a) (by simp)).1.all; obtain ⟨q6a, q6b, q6c, q6d, q6e, q6f, q6g, q6h, q6i, q6j⟩ := (hSw.res (w.heap.size + 1 + 1, b) (by simp)).1.all; go_simp; try with_reducible rfl)
  try simp only [Act.put, List.setIfInBounds_toArray, List.set_cons_zero, List.set_cons_succ]
  refine wpAnyH_take (i := 25) (v := ?_) (oi := { dst := some 76, op := Op.pick (Operand.tmp 70) (Operand.tmp 75) (Operand.const (Value.bool false)), type := 4, pos := "law.go:54", after := #[{ on := 19, ground := Ground.data }, { on := 24, ground := Ground.data }], guard := none }) (by kernel_rfl) (by kernel_rfl) (by kernel_rfl) (by kernel_rfl) (fun _ _ _ h => h) (Or.inl ⟨by kernel_rfl, ?hy25⟩) (by assumption) ?_
  case hy25 => (intro wI hSw; (try dsimp only at hSw); obtain ⟨q0a, q0b, q0c, q0d, q0e, q0f, q0g, q0h, q0i, q0j⟩ := (hSw.res (P7, rx) (by simp)).1.all; obtain ⟨q1a, q1b, q1c, q1d, q1e, q1f, q1g, q1h, q1i, q1j⟩ := (hSw.res (P8, ry) (by simp)).1.all; obtain ⟨q2a, q2b, q2c, q2d, q2e, q2f, q2g, q2h, q2i, q2j⟩ := (hSw.res (P9, rz) (by simp)).1.all; obtain ⟨q3a, q3b, q3c, q3d, q3e, q3f, q3g, q3h, q3i, q3j⟩ := (hSw.res (P10, rw_) (by simp)).1.all; obtain ⟨q4a, q4b, q4c, q4d, q4e, q4f, q4g, q4h, q4i, q4j⟩ := (hSw.res (w.heap.size, n) (by simp)).1.all; obtain ⟨q5a, q5b, q5c, q5d, q5e, q5f, q5g, q5h, q5i, q5j⟩ := (hSw.res (w.heap.size + 1, a) (by simp)).1.all; obtain ⟨q6a, q6b, q6c, q6d, q6e, q6f, q6g, q6h, q6i, q6j⟩ := (hSw.res (w.heap.size + 1 + 1, b) (by simp)).1.all; go_simp; try with_reducible rfl)
  try simp only [Act.put, List.setIfInBounds_toArray, List.set_cons_zero, List.set_cons_succ]
  refine wpAnyH_take (i := 26) (v := ?_) (oi := { dst := some 77, op := Op.move (Operand.tmp 76), type := 4, pos := "law.go:54", after := #[{ on := 25, ground := Ground.data }, { on := 19, ground := Ground.chain }], guard := none }) (by kernel_rfl) (by kernel_rfl) (by kernel_rfl) (by kernel_rfl) (fun _ _ _ h => h) (Or.inl ⟨by kernel_rfl, ?hy26⟩) (by assumption) ?_
  case hy26 => (intro wI hSw; (try dsimp only at hSw); obtain ⟨q0a, q0b, q0c, q0d, q0e, q0f, q0g, q0h, q0i, q0j⟩ := (hSw.res (P7, rx) (by simp)).1.all; obtain ⟨q1a, q1b, q1c, q1d, q1e, q1f, q1g, q1h, q1i, q1j⟩ := (hSw.res (P8, ry) (by simp)).1.all; obtain ⟨q2a, q2b, q2c, q2d, q2e, q2f, q2g, q2h, q2i, q2j⟩ := (hSw.res (P9, rz) (by simp)).1.all; obtain ⟨q3a, q3b, q3c, q3d, q3e, q3f, q3g, q3h, q3i, q3j⟩ := (hSw.res (P10, rw_) (by simp)).1.all; obtain ⟨q4a, q4b, q4c, q4d, q4e, q4f, q4g, q4h, q4i, q4j⟩ := (hSw.res (w.heap.size, n) (by simp)).1.all; obtain ⟨q5a, q5b, q5c, q5d, q5e, q5f, q5g, q5h, q5i, q5j⟩ := (hSw.res (w.heap.size + 1, a) (by simp)).1.all; obtain ⟨q6a, q6b, q6c, q6d, q6e, q6f, q6g, q6h, q6i, q6j⟩ := (hSw.res (w.heap.size + 1 + 1, b) (by simp)).1.all; go_simp; try with_reducible rfl)
  try simp only [Act.put, List.setIfInBounds_toArray, List.set_cons_zero, List.set_cons_succ]
  refine wpAnyH_take (i := 27) (v := ?_) (oi := { dst := some 78, op := Op.fieldAddr 26 (Operand.tmp 9) 8, type := 0, pos := "law.go:54", after := #[{ on := 26, ground := Ground.guard }], guard := some (26, true) }) (by kernel_rfl) (by kernel_rfl) (by kernel_rfl) (by kernel_rfl) (fun _ _ _ h => h) (Or.inl ⟨by kernel_rfl, ?hy27⟩) (by assumption) ?_
  case hy27 => (intro wI hSw; (try dsimp only at hSw); obtain ⟨q0a, q0b, q0c, q0d, q0e, q0f, q0g, q0h, q0i, q0j⟩ := (hSw.res (P7, rx) (by simp)).1.all; obtain ⟨q1a, q1b, q1c, q1d, q1e, q1f, q1g, q1h, q1i, q1j⟩ := (hSw.res (P8, ry) (by simp)).1.all; obtain ⟨q2a, q2b, q2c, q2d, q2e, q2f, q2g, q2h, q2i, q2j⟩ := (hSw.res (P9, rz) (by simp)).1.all; obtain ⟨q3a, q3b, q3c, q3d, q3e, q3f, q3g, q3h, q3i, q3j⟩ := (hSw.res (P10, rw_) (by simp)).1.all; obtain ⟨q4a, q4b, q4c, q4d, q4e, q4f, q4g, q4h, q4i, q4j⟩ := (hSw.res (w.heap.size, n) (by simp)).1.all; obtain ⟨q5a, q5b, q5c, q5d, q5e, q5f, q5g, q5h, q5i, q5j⟩ := (hSw.res (w.heap.size + 1, a) (by simp)).1.all; obtain ⟨q6a, q6b, q6c, q6d, q6e, q6f, q6g, q6h, q6i, q6j⟩ := (hSw.res (w.heap.size + 1 + 1, b) (by simp)).1.all; go_simp; try with_reducible rfl)
  try simp only [Act.put, List.setIfInBounds_toArray, List.set_cons_zero, List.set_cons_succ]
  refine wpAnyH_take (i := 28) (v := ?_) (oi := { dst := some 79, op := Op.load 23 (Operand.tmp 78), type := 23, pos := "law.go:54", after := #[{ on := 27, ground := Ground.data }, { on := 26, ground := Ground.guard }], guard := some (26, true) }) (by kernel_rfl) (by kernel_rfl) (by kernel_rfl) (by kernel_rfl) (fun _ _ _ h => h) (Or.inl ⟨by kernel_rfl, ?hy28⟩) (by assumption) ?_
  case hy28 => (intro wI hSw; (try dsimp only at hSw); obtain ⟨q0a, q0b, q0c, q0d, q0e, q0f, q0g, q0h, q0i, q0j⟩ := (hSw.res (P7, rx) (by simp)).1.all; obtain ⟨q1a, q1b, q1c, q1d, q1e, q1f, q1g, q1h, q1i, q1j⟩ := (hSw.res (P8, ry) (by simp)).1.all; obtain ⟨q2a, q2b, q2c, q2d, q2e, q2f, q2g, q2h, q2i, q2j⟩ := (hSw.res (P9, rz) (by simp)).1.all; obtain ⟨q3a, q3b, q3c, q3d, q3e, q3f, q3g, q3h, q3i, q3j⟩ := (hSw.res (P10, rw_) (by simp)).1.all; obtain ⟨q4a, q4b, q4c, q4d, q4e, q4f, q4g, q4h, q4i, q4j⟩ := (hSw.res (w.heap.size, n) (by simp)).1.all; obtain ⟨q5a, q5b, q5c, q5d, q5e, q5f, q5g, q5h, q5i, q5j⟩ := (hSw.res (w.heap.size + 1, a) (by simp)).1.all; obtain ⟨q6a, q6b, q6c, q6d, q6e, q6f, q6g, q6h, q6i, q6j⟩ := (hSw.res (w.heap.size + 1 + 1, b) (by simp)).1.all; go_simp; try with_reducible rfl)
  try simp only [Act.put, List.setIfInBounds_toArray, List.set_cons_zero, List.set_cons_succ]
  refine wpAnyH_take (i := 29) (v := ?_) (oi := { dst := some 80, op := Op.fieldAddr 26 (Operand.tmp 10) 8, type := 0, pos := "law.go:54", after := #[{ on := 26, ground := Ground.guard }], guard := some (26, true) }) (by kernel_rfl) (by kernel_rfl) (by kernel_rfl) (by kernel_rfl) (fun _ _ _ h => h) (Or.inl ⟨by kernel_rfl, ?hy29⟩) (by assumption) ?_
  case hy29 => (intro wI hSw; (try dsimp only at hSw); obtain ⟨q0a, q0b, q0c, q0d, q0e, q0f, q0g, q0h, q0i, q0j⟩ := (hSw.res (P7, rx) (by simp)).1.all; obtain ⟨q1a, q1b, q1c, q1d, q1e, q1f, q1g, q1h, q1i, q1j⟩ := (hSw.res (P8, ry) (by simp)).1.all; obtain ⟨q2a, q2b, q2c, q2d, q2e, q2f, q2g, q2h, q2i, q2j⟩ := (hSw.res (P9, rz) (by simp)).1.all; obtain ⟨q3a, q3b, q3c, q3d, q3e, q3f, q3g, q3h, q3i, q3j⟩ := (hSw.res (P10, rw_) (by simp)).1.all; obtain ⟨q4a, q4b, q4c, q4d, q4e, q4f, q4g, q4h, q4i, q4j⟩ := (hSw.res (w.heap.size, n) (by simp)).1.all; obtain ⟨q5a, q5b, q5c, q5d, q5e, q5f, q5g, q5h, q5i, q5j⟩ := (hSw.res (w.heap.size + 1, a) (by simp)).1.all; obtain ⟨q6a, q6b, q6c, q6d, q6e, q6f, q6g, q6h, q6i, q6j⟩ := (hSw.res (w.heap.size + 1 + 1, b) (by simp)).1.all; go_simp; try with_reducible rfl)
  try simp only [Act.put, List.setIfInBounds_toArray, List.set_cons_zero, List.set_cons_succ]
  refine wpAnyH_take (i := 30) (v := ?_) (oi := { dst := some 81, op := Op.load 23 (Operand.tmp 80), type := 23, pos := "law.go:54", after := #[{ on := 29, ground := Ground.data }, { on := 26, ground := Ground.guard }], guard := some (26, true) }) (by kernel_rfl) (by kernel_rfl) (by kernel_rfl) (by kernel_rfl) (fun _ _ _ h => h) (Or.inl ⟨by kernel_rfl, ?hy30⟩) (by assumption) ?_
  case hy30 => (intro wI hSw; (try dsimp only at hSw); obtain ⟨q0a, q0b, q0c, q0d, q0e, q0f, q0g, q0h, q0i, q0j⟩ := (hSw.res (P7, rx) (by simp)).1.all; obtain ⟨q1a, q1b, q1c, q1d, q1e, q1f, q1g, q1h, q1i, q1j⟩ := (hSw.res (P8, ry) (by simp)).1.all; obtain ⟨q2a, q2b, q2c, q2d, q2e, q2f, q2g, q2h, q2i, q2j⟩ := (hSw.res (P9, rz) (by simp)).1.all; obtain ⟨q3a, q3b, q3c, q3d, q3e, q3f, q3g, q3h, q3i, q3j⟩ := (hSw.res (P10, rw_) (by simp)).1.all; obtain ⟨q4a, q4b, q4c, q4d, q4e, q4f, q4g, q4h, q4i, q4j⟩ := (hSw.res (w.heap.size, n) (by simp)).1.all; obtain ⟨q5a, q5b, q5c, q5d, q5e, q5f, q5g, q5h, q5i, q5j⟩ := (hSw.res (w.heap.size + 1, a) (by simp)).1.all; obtain ⟨q6a, q6b, q6c, q6d, q6e, q6f, q6g, q6h, q6i, q6j⟩ := (hSw.res (w.heap.size + 1 + 1, b) (by simp)).1.all; go_simp; try with_reducible rfl)
  try simp only [Act.put, List.setIfInBounds_toArray, List.set_cons_zero, List.set_cons_succ]
  refine wpAnyH_ready (rs := [31]) (by kernel_rfl) (by simp) ?_
  refine AllReadyH.cons (o := { dst := some 82, op := Op.call { callee := Callee.value (Operand.func 24), args := #[Operand.tmp 79, Operand.tmp 81], argTypes := #[23, 23] }, type := 4, pos := "law.go:54", after := #[{ on := 28, ground := Ground.data }, { on := 30, ground := Ground.data }, { on := 26, ground := Ground.chain }, { on := 26, ground := Ground.guard }], guard := some (26, true) }) (by kernel_rfl) (fun K hK => ?_) AllReadyH.nil
  rw [if_pos (by kernel_rfl)]
  go_simp
  go_wp2_with fail
  refine (C31.out _ hHeld).mono ?_
  rintro e W31 ⟨rfl, hb⟩
  have hM := hHeld.on hb
  refine hK.out _ _ hM (fun _ => ?_)
  clear hK K hHeld hb
  have hHeld := hM
  clear hM
  try simp only [Act.put, List.setIfInBounds_toArray, List.set_cons_zero, List.set_cons_succ]
  refine wpAnyH_take (i := 32) (v := ?_) (oi := { dst := some 83, op := Op.pick (Operand.tmp 77) (Operand.tmp 82) (Operand.const (Value.bool false)), type := 4, pos := "law.go:54", after := #[{ on := 26, ground := Ground.data }, { on := 31, ground := Ground.data }], guard := none }) (by kernel_rfl) (by kernel_rfl) (by kernel_rfl) (by kernel_rfl) (fun _ _ _ h => h) (Or.inl ⟨by kernel_rfl, ?hy32⟩) (by assumption) ?_
  case hy32 => (intro wI hSw; (try dsimp only at hSw); obtain ⟨q0a, q0b, q0c, q0d, q0e, q0f, q0g, q0h, q0i, q0j⟩ := (hSw.res (P7, rx) (by simp)).1.all; obtain ⟨q1a, q1b, q1c, q1d, q1e, q1f, q1g, q1h, q1i, q1j⟩ := (hSw.res (P8, ry) (by simp)).1.all; obtain ⟨q2a, q2b, q2c, q2d, q2e, q2f, q2g, q2h, q2i, q2j⟩ := (hSw.res (P9, rz) (by simp)).1.all; obtain ⟨q3a, q3b, q3c, q3d, q3e, q3f, q3g, q3h, q3i, q3j⟩ := (hSw.res (P10, rw_) (by simp)).1.all; obtain ⟨q4a, q4b, q4c, q4d, q4e, q4f, q4g, q4h, q4i, q4j⟩ := (hSw.res (w.heap.size, n) (by simp)).1.all; obtain ⟨q5a, q5b, q5c, q5d, q5e, q5f, q5g, q5h, q5i, q5j⟩ := (hSw.res (w.heap.size + 1, a) (by simp)).1.all; obtain ⟨q6a, q6b, q6c, q6d, q6e, q6f, q6g, q6h, q6i, q6j⟩ := (hSw.res (w.heap.size + 1 + 1, b) (by simp)).1.all; go_simp; try with_reducible rfl)
  try simp only [Act.put, List.setIfInBounds_toArray, List.set_cons_zero, List.set_cons_succ]
  refine wpAnyH_take (i := 33) (v := ?_) (oi := { dst := some 84, op := Op.move (Operand.tmp 83), type := 4, pos := "law.go:54", after := #[{ on := 32, ground := Ground.data }, { on := 31, ground := Ground.chain }], guard := none }) (by kernel_rfl) (by kernel_rfl) (by kernel_rfl) (by kernel_rfl) (fun _ _ _ h => h) (Or.inl ⟨by kernel_rfl, ?hy33⟩) (by assumption) ?_
  case hy33 => (intro wI hSw; (try dsimp only at hSw); obtain ⟨q0a, q0b, q0c, q0d, q0e, q0f, q0g, q0h, q0i, q0j⟩ := (hSw.res (P7, rx) (by simp)).1.all; obtain ⟨q1a, q1b, q1c, q1d, q1e, q1f, q1g, q1h, q1i, q1j⟩ := (hSw.res (P8, ry) (by simp)).1.all; obtain ⟨q2a, q2b, q2c, q2d, q2e, q2f, q2g, q2h, q2i, q2j⟩ := (hSw.res (P9, rz) (by simp)).1.all; obtain ⟨q3a, q3b, q3c, q3d, q3e, q3f, q3g, q3h, q3i, q3j⟩ := (hSw.res (P10, rw_) (by simp)).1.all; obtain ⟨q4a, q4b, q4c, q4d, q4e, q4f, q4g, q4h, q4i, q4j⟩ := (hSw.res (w.heap.size, n) (by simp)).1.all; obtain ⟨q5a, q5b, q5c, q5d, q5e, q5f, q5g, q5h, q5i, q5j⟩ := (hSw.res (w.heap.size + 1, a) (by simp)).1.all; obtain ⟨q6a, q6b, q6c, q6d, q6e, q6f, q6g, q6h, q6i, q6j⟩ := (hSw.res (w.heap.size + 1 + 1, b) (by simp)).1.all; go_simp; try with_reducible rfl)
  try simp only [Act.put, List.setIfInBounds_toArray, List.set_cons_zero, List.set_cons_succ]
  refine wpAnyH_take (i := 34) (v := ?_) (oi := { dst := some 85, op := Op.load 26 (Operand.tmp 7), type := 26, pos := "law.go:54", after := #[{ on := 33, ground := Ground.guard }], guard := some (33, true) }) (by kernel_rfl) (by kernel_rfl) (by kernel_rfl) (by kernel_rfl) (fun _ _ _ h => h) (Or.inl ⟨by kernel_rfl, ?hy34⟩) (by assumption) ?_
  case hy34 => (intro wI hSw; (try dsimp only at hSw); obtain ⟨q0a, q0b, q0c, q0d, q0e, q0f, q0g, q0h, q0i, q0j⟩ := (hSw.res (P7, rx) (by simp)).1.all; obtain ⟨q1a, q1b, q1c, q1d, q1e, q1f, q1g, q1h, q1i, q1j⟩ := (hSw.res (P8, ry) (by simp)).1.all; obtain ⟨q2a, q2b, q2c, q2d, q2e, q2f, q2g, q2h, q2i, q2j⟩ := (hSw.res (P9, rz) (by simp)).1.all; obtain ⟨q3a, q3b, q3c, q3d, q3e, q3f, q3g, q3h, q3i, q3j⟩ := (hSw.res (P10, rw_) (by simp)).1.all; obtain ⟨q4a, q4b, q4c, q4d, q4e, q4f, q4g, q4h, q4i, q4j⟩ := (hSw.res (w.heap.size, n) (by simp)).1.all; obtain ⟨q5a, q5b, q5c, q5d, q5e, q5f, q5g, q5h, q5i, q5j⟩ := (hSw.res (w.heap.size + 1, a) (by simp)).1.all; obtain ⟨q6a, q6b, q6c, q6d, q6e, q6f, q6g, q6h, q6i, q6j⟩ := (hSw.res (w.heap.size + 1 + 1, b) (by simp)).1.all; go_simp; try with_reducible rfl)
  try simp only [Act.put, List.setIfInBounds_toArray, List.set_cons_zero, List.set_cons_succ]
  refine wpAnyH_take (i := 35) (v := ?_) (oi := { dst := some 86, op := Op.load 26 (Operand.tmp 3), type := 26, pos := "law.go:54", after := #[{ on := 33, ground := Ground.guard }], guard := some (33, true) }) (by kernel_rfl) (by kernel_rfl) (by kernel_rfl) (by kernel_rfl) (fun _ _ _ h => h) (Or.inl ⟨by kernel_rfl, ?hy35⟩) (by assumption) ?_
  case hy35 => (intro wI hSw; (try dsimp only at hSw); obtain ⟨q0a, q0b, q0c, q0d, q0e, q0f, q0g, q0h, q0i, q0j⟩ := (hSw.res (P7, rx) (by simp)).1.all; obtain ⟨q1a, q1b, q1c, q1d, q1e, q1f, q1g, q1h, q1i, q1j⟩ := (hSw.res (P8, ry) (by simp)).1.all; obtain ⟨q2a, q2b, q2c, q2d, q2e, q2f, q2g, q2h, q2i, q2j⟩ := (hSw.res (P9, rz) (by simp)).1.all; obtain ⟨q3a, q3b, q3c, q3d, q3e, q3f, q3g, q3h, q3i, q3j⟩ := (hSw.res (P10, rw_) (by simp)).1.all; obtain ⟨q4a, q4b, q4c, q4d, q4e, q4f, q4g, q4h, q4i, q4j⟩ := (hSw.res (w.heap.size, n) (by simp)).1.all; obtain ⟨q5a, q5b, q5c, q5d, q5e, q5f, q5g, q5h, q5i, q5j⟩ := (hSw.res (w.heap.size + 1, a) (by simp)).1.all; obtain ⟨q6a, q6b, q6c, q6d, q6e, q6f, q6g, q6h, q6i, q6j⟩ := (hSw.res (w.heap.size + 1 + 1, b) (by simp)).1.all; go_simp; try with_reducible rfl)
  try simp only [Act.put, List.setIfInBounds_toArray, List.set_cons_zero, List.set_cons_succ]
  refine wpAnyH_take (i := 36) (v := ?_) (oi := { dst := some 87, op := Op.load 26 (Operand.tmp 4), type := 26, pos := "law.go:54", after := #[{ on := 33, ground := Ground.guard }], guard := some (33, true) }) (by kernel_rfl) (by kernel_rfl) (by kernel_rfl) (by kernel_rfl) (fun _ _ _ h => h) (Or.inl ⟨by kernel_rfl, ?hy36⟩) (by assumption) ?_
  case hy36 => (intro wI hSw; (try dsimp only at hSw); obtain ⟨q0a, q0b, q0c, q0d, q0e, q0f, q0g, q0h, q0i, q0j⟩ := (hSw.res (P7, rx) (by simp)).1.all; obtain ⟨q1a, q1b, q1c, q1d, q1e, q1f, q1g, q1h, q1i, q1j⟩ := (hSw.res (P8, ry) (by simp)).1.all; obtain ⟨q2a, q2b, q2c, q2d, q2e, q2f, q2g, q2h, q2i, q2j⟩ := (hSw.res (P9, rz) (by simp)).1.all; obtain ⟨q3a, q3b, q3c, q3d, q3e, q3f, q3g, q3h, q3i, q3j⟩ := (hSw.res (P10, rw_) (by simp)).1.all; obtain ⟨q4a, q4b, q4c, q4d, q4e, q4f, q4g, q4h, q4i, q4j⟩ := (hSw.res (w.heap.size, n) (by simp)).1.all; obtain ⟨q5a, q5b, q5c, q5d, q5e, q5f, q5g, q5h, q5i, q5j⟩ := (hSw.res (w.heap.size + 1, a) (by simp)).1.all; obtain ⟨q6a, q6b, q6c, q6d, q6e, q6f, q6g, q6h, q6i, q6j⟩ := (hSw.res (w.heap.size + 1 + 1, b) (by simp)).1.all; go_simp; try with_reducible rfl)
  try simp only [Act.put, List.setIfInBounds_toArray, List.set_cons_zero, List.set_cons_succ]
  refine wpAnyH_take (i := 37) (v := ?_) (oi := { dst := some 88, op := Op.load 26 (Operand.tmp 5), type := 26, pos := "law.go:54", after := #[{ on := 33, ground := Ground.guard }], guard := some (33, true) }) (by kernel_rfl) (by kernel_rfl) (by kernel_rfl) (by kernel_rfl) (fun _ _ _ h => h) (Or.inl ⟨by kernel_rfl, ?hy37⟩) (by assumption) ?_
  case hy37 => (intro wI hSw; (try dsimp only at hSw); obtain ⟨q0a, q0b, q0c, q0d, q0e, q0f, q0g, q0h, q0i, q0j⟩ := (hSw.res (P7, rx) (by simp)).1.all; obtain ⟨q1a, q1b, q1c, q1d, q1e, q1f, q1g, q1h, q1i, q1j⟩ := (hSw.res (P8, ry) (by simp)).1.all; obtain ⟨q2a, q2b, q2c, q2d, q2e, q2f, q2g, q2h, q2i, q2j⟩ := (hSw.res (P9, rz) (by simp)).1.all; obtain ⟨q3a, q3b, q3c, q3d, q3e, q3f, q3g, q3h, q3i, q3j⟩ := (hSw.res (P10, rw_) (by simp)).1.all; obtain ⟨q4a, q4b, q4c, q4d, q4e, q4f, q4g, q4h, q4i, q4j⟩ := (hSw.res (w.heap.size, n) (by simp)).1.all; obtain ⟨q5a, q5b, q5c, q5d, q5e, q5f, q5g, q5h, q5i, q5j⟩ := (hSw.res (w.heap.size + 1, a) (by simp)).1.all; obtain ⟨q6a, q6b, q6c, q6d, q6e, q6f, q6g, q6h, q6i, q6j⟩ := (hSw.res (w.heap.size + 1 + 1, b) (by simp)).1.all; go_simp; try with_reducible rfl)
  try simp only [Act.put, List.setIfInBounds_toArray, List.set_cons_zero, List.set_cons_succ]
  refine wpAnyH_ready (rs := [38]) (by kernel_rfl) (by simp) ?_
  refine AllReadyH.cons (o := { dst := some 89, op := Op.call { callee := Callee.value (Operand.func 14), args := #[Operand.tmp 87, Operand.tmp 88], argTypes := #[26, 26] }, type := 26, pos := "law.go:54", after := #[{ on := 36, ground := Ground.data }, { on := 37, ground := Ground.data }, { on := 33, ground := Ground.chain }, { on := 33, ground := Ground.guard }], guard := some (33, true) }) (by kernel_rfl) (fun K hK => ?_) AllReadyH.nil
  rw [if_pos (by kernel_rfl)]
  go_simp
  go_wp2_with fail
  refine (rmerge_any a b _ (hHeld.res (w.heap.size + 1, a) (by simp)).2 (hHeld.res (w.heap.size + 1 + 1, b) (by simp)).2 (len_mono LA.out (by omega)) (len_mono LB.out (by omega))).mono ?_
  rintro e W38 ⟨m, rfl, okm, -, hqm, hb⟩
  have LM := hid (len_mrg (hHeld.res (w.heap.size + 1, a) (by simp)).2 (hHeld.res (w.heap.size + 1 + 1, b) (by simp)).2 okm hqm LA.out LB.out)
  have OM := hid okm
  have QM := hid hqm
  have hM := hHeld.on hb
  refine hK.out _ _ hM (fun _ => ?_)
  clear hK K hHeld hb okm hqm
  have hHeld := hM
  clear hM
  try simp only [Act.put, List.setIfInBounds_toArray, List.set_cons_zero, List.set_cons_succ]
  refine wpAnyH_ready (rs := [39]) (by kernel_rfl) (by simp) ?_
  refine AllReadyH.cons (o := { dst := some 90, op := Op.call { callee := Callee.value (Operand.func 16), args := #[Operand.tmp 86, Operand.tmp 89], argTypes := #[26, 26] }, type := 26, pos := "law.go:54", after := #[{ on := 35, ground := Ground.data }, { on := 38, ground := Ground.data }, { on := 38, ground := Ground.chain }, { on := 33, ground := Ground.guard }], guard := some (33, true) }) (by kernel_rfl) (fun K hK => ?_) AllReadyH.nil
  rw [if_pos (by kernel_rfl)]
  go_simp
  go_wp2_with fail
  refine (rapply_any n m _ (hHeld.res (w.heap.size, n) (by simp)).2 OM.out (len_mono LN.out (by omega)) (len_mono LM.out (by omega))).mono ?_
  rintro e W39 ⟨r, rfl, okr, -, hqr, hb⟩
  rw [QM.out, ← Qrx.out] at hqr
  have hM := hHeld.on hb
  have C40 := same_any rx r _ (hM.res (P7, rx) (by simp)).2 okr
  rw [hqr, sm_same] at C40
  have H40 := hid C40
  refine hK.out _ _ hM (fun _ => ?_)
  clear hK K hHeld hb okr hqr C40
  have hHeld := hM
  clear hM
  try simp only [Act.put, List.setIfInBounds_toArray, List.set_cons_zero, List.set_cons_succ]
  refine wpAnyH_ready (rs := [40]) (by kernel_rfl) (by simp) ?_
  refine AllReadyH.cons (o := { dst := some 91, op := Op.call { callee := Callee.value (Operand.func 19), args := #[Operand.tmp 85, Operand.tmp 90], argTypes := #[26, 26] }, type := 4, pos := "law.go:54", after := #[{ on := 34, ground := Ground.data }, { on := 39, ground := Ground.data }, { on := 39, ground := Ground.chain }, { on := 33, ground := Ground.guard }], guard := some (33, true) }) (by kernel_rfl) (fun K hK => ?_) AllReadyH.nil
  rw [if_pos (by kernel_rfl)]
  go_simp
  go_wp2_with fail
  refine (H40.out).mono ?_
  rintro e W40 ⟨rfl, hb⟩
  have hM := hHeld.on hb
  refine hK.out _ _ hM (fun _ => ?_)
  clear hK K hHeld hb
  have hHeld := hM
  clear hM
  try simp only [Act.put, List.setIfInBounds_toArray, List.set_cons_zero, List.set_cons_succ]
  refine wpAnyH_take (i := 41) (v := ?_) (oi := { dst := some 92, op := Op.pick (Operand.tmp 84) (Operand.tmp 91) (Operand.const (Value.bool false)), type := 4, pos := "law.go:54", after := #[{ on := 33, ground := Ground.data }, { on := 40, ground := Ground.data }], guard := none }) (by kernel_rfl) (by kernel_rfl) (by kernel_rfl) (by kernel_rfl) (fun _ _ _ h => h) (Or.inl ⟨by kernel_rfl, ?hy41⟩) (by assumption) ?_
  case hy41 => (intro wI hSw; (try dsimp only at hSw); obtain ⟨q0a, q0b, q0c, q0d, q0e, q0f, q0g, q0h, q0i, q0j⟩ := (hSw.res (P7, rx) (by simp)).1.all; obtain ⟨q1a, q1b, q1c, q1d, q1e, q1f, q1g, q1h, q1i, q1j⟩ := (hSw.res (P8, ry) (by simp)).1.all; obtain ⟨q2a, q2b, q2c, q2d, q2e, q2f, q2g, q2h, q2i, q2j⟩ := (hSw.res (P9, rz) (by simp)).1.all; obtain ⟨q3a, q3b, q3c, q3d, q3e, q3f, q3g, q3h, q3i, q3j⟩ := (hSw.res (P10, rw_) (by simp)).1.all; obtain ⟨q4a, q4b, q4c, q4d, q4e, q4f, q4g, q4h, q4i, q4j⟩ := (hSw.res (w.heap.size, n) (by simp)).1.all; obtain ⟨q5a, q5b, q5c, q5d, q5e, q5f, q5g, q5h, q5i, q5j⟩ := (hSw.res (w.heap.size + 1, a) (by simp)).1.all; obtain ⟨q6a, q6b, q6c, q6d, q6e, q6f, q6g, q6h, q6i, q6j⟩ := (hSw.res (w.heap.size + 1 + 1, b) (by simp)).1.all; go_simp; try with_reducible rfl)
  try simp only [Act.put, List.setIfInBounds_toArray, List.set_cons_zero, List.set_cons_succ]
  refine wpAnyH_take (i := 42) (v := ?_) (oi := { dst := some 93, op := Op.move (Operand.tmp 92), type := 4, pos := "law.go:54", after := #[{ on := 41, ground := Ground.data }, { on := 40, ground := Ground.chain }], guard := none }) (by kernel_rfl) (by kernel_rfl) (by kernel_rfl) (by kernel_rfl) (fun _ _ _ h => h) (Or.inl ⟨by kernel_rfl, ?hy42⟩) (by assumption) ?_
  case hy42 => (intro wI hSw; (try dsimp only at hSw); obtain ⟨q0a, q0b, q0c, q0d, q0e, q0f, q0g, q0h, q0i, q0j⟩ := (hSw.res (P7, rx) (by simp)).1.all; obtain ⟨q1a, q1b, q1c, q1d, q1e, q1f, q1g, q1h, q1i, q1j⟩ := (hSw.res (P8, ry) (by simp)).1.all; obtain ⟨q2a, q2b, q2c, q2d, q2e, q2f, q2g, q2h, q2i, q2j⟩ := (hSw.res (P9, rz) (by simp)).1.all; obtain ⟨q3a, q3b, q3c, q3d, q3e, q3f, q3g, q3h, q3i, q3j⟩ := (hSw.res (P10, rw_) (by simp)).1.all; obtain ⟨q4a, q4b, q4c, q4d, q4e, q4f, q4g, q4h, q4i, q4j⟩ := (hSw.res (w.heap.size, n) (by simp)).1.all; obtain ⟨q5a, q5b, q5c, q5d, q5e, q5f, q5g, q5h, q5i, q5j⟩ := (hSw.res (w.heap.size + 1, a) (by simp)).1.all; obtain ⟨q6a, q6b, q6c, q6d, q6e, q6f, q6g, q6h, q6i, q6j⟩ := (hSw.res (w.heap.size + 1 + 1, b) (by simp)).1.all; go_simp; try with_reducible rfl)
  try simp only [Act.put, List.setIfInBounds_toArray, List.set_cons_zero, List.set_cons_succ]
  refine wpAnyH_ready (rs := [43]) (by kernel_rfl) (by simp) ?_
  refine AllReadyH.cons (o := { dst := some 94, op := Op.call { callee := Callee.value (Operand.func 8), args := #[], argTypes := #[] }, type := 4, pos := "law.go:54", after := #[{ on := 42, ground := Ground.chain }, { on := 42, ground := Ground.guard }], guard := some (42, true) }) (by kernel_rfl) (fun K hK => ?_) AllReadyH.nil
  rw [if_pos (by kernel_rfl)]
  go_simp
  go_wp2_with fail
  refine (awake_any _).mono ?_
  rintro e W43 ⟨rfl, hb⟩
  have hM := hHeld.on hb
  refine hK.out _ _ hM (fun _ => ?_)
  clear hK K hHeld hb
  have hHeld := hM
  clear hM
  try simp only [Act.put, List.setIfInBounds_toArray, List.set_cons_zero, List.set_cons_succ]
  refine wpAnyH_take (i := 44) (v := ?_) (oi := { dst := some 95, op := Op.pick (Operand.tmp 93) (Operand.tmp 94) (Operand.const (Value.bool false)), type := 4, pos := "law.go:54", after := #[{ on := 42, ground := Ground.data }, { on := 43, ground := Ground.data }], guard := none }) (by kernel_rfl) (by kernel_rfl) (by kernel_rfl) (by kernel_rfl) (fun _ _ _ h => h) (Or.inl ⟨by kernel_rfl, ?hy44⟩) (by assumption) ?_
  case hy44 => (intro wI hSw; (try dsimp only at hSw); obtain ⟨q0a, q0b, q0c, q0d, q0e, q0f, q0g, q0h, q0i, q0j⟩ := (hSw.res (P7, rx) (by simp)).1.all; obtain ⟨q1a, q1b, q1c, q1d, q1e, q1f, q1g, q1h, q1i, q1j⟩ := (hSw.res (P8, ry) (by simp)).1.all; obtain ⟨q2a, q2b, q2c, q2d, q2e, q2f, q2g, q2h, q2i, q2j⟩ := (hSw.res (P9, rz) (by simp)).1.all; obtain ⟨q3a, q3b, q3c, q3d, q3e, q3f, q3g, q3h, q3i, q3j⟩ := (hSw.res (P10, rw_) (by simp)).1.all; obtain ⟨q4a, q4b, q4c, q4d, q4e, q4f, q4g, q4h, q4i, q4j⟩ := (hSw.res (w.heap.size, n) (by simp)).1.all; obtain ⟨q5a, q5b, q5c, q5d, q5e, q5f, q5g, q5h, q5i, q5j⟩ := (hSw.res (w.heap.size + 1, a) (by simp)).1.all; obtain ⟨q6a, q6b, q6c, q6d, q6e, q6f, q6g, q6h, q6i, q6j⟩ := (hSw.res (w.heap.size + 1 + 1, b) (by simp)).1.all; go_simp; try with_reducible rfl)
  try simp only [Act.put, List.setIfInBounds_toArray, List.set_cons_zero, List.set_cons_succ]
  refine wpAnyH_take (i := 45) (v := ?_) (oi := { dst := some 6, op := Op.assign (Operand.tmp 95), type := 4, pos := "law.go:54", after := #[{ on := 44, ground := Ground.data }, { on := 43, ground := Ground.chain }, { on := 0, ground := Ground.phase }, { on := 1, ground := Ground.phase }, { on := 2, ground := Ground.phase }, { on := 3, ground := Ground.phase }, { on := 4, ground := Ground.phase }, { on := 5, ground := Ground.phase }, { on := 6, ground := Ground.phase }, { on := 7, ground := Ground.phase }, { on := 8, ground := Ground.phase }, { on := 9, ground := Ground.phase }, { on := 10, ground := Ground.phase }, { on := 11, ground := Ground.phase }, { on := 12, ground := Ground.phase }, { on := 13, ground := Ground.phase }, { on := 14, ground := Ground.phase }, { on := 15, ground := Ground.phase }, { on := 16, ground := Ground.phase }, { on := 17, ground := Ground.phase }, { on := 18, ground := Ground.phase }, { on := 19, ground := Ground.phase }, { on := 20, ground := Ground.phase }, { on := 21, ground := Ground.phase }, { on := 22, ground := Ground.phase }, { on := 23, ground := Ground.phase }, { on := 24, ground := Ground.phase }, { on := 25, ground := Ground.phase }, { on := 26, ground := Ground.phase }, { on := 27, ground := Ground.phase }, { on := 28, ground := Ground.phase }, { on := 29, ground := Ground.phase }, { on := 30, ground := Ground.phase }, { on := 31, ground := Ground.phase }, { on := 32, ground := Ground.phase }, { on := 33, ground := Ground.phase }, { on := 34, ground := Ground.phase }, { on := 35, ground := Ground.phase }, { on := 36, ground := Ground.phase }, { on := 37, ground := Ground.phase }, { on := 38, ground := Ground.phase }, { on := 39, ground := Ground.phase }, { on := 40, ground := Ground.phase }, { on := 41, ground := Ground.phase }, { on := 42, ground := Ground.phase }, { on := 43, ground := Ground.phase }, { on := 44, ground := Ground.phase }], guard := none }) (by kernel_rfl) (by kernel_rfl) (by kernel_rfl) (by kernel_rfl) (fun _ _ _ h => h) (Or.inl ⟨by kernel_rfl, ?hy45⟩) (by assumption) ?_
  case hy45 => (intro wI hSw; (try dsimp only at hSw); obtain ⟨q0a, q0b, q0c, q0d, q0e, q0f, q0g, q0h, q0i, q0j⟩ := (hSw.res (P7, rx) (by simp)).1.all; obtain ⟨q1a, q1b, q1c, q1d, q1e, q1f, q1g, q1h, q1i, q1j⟩ := (hSw.res (P8, ry) (by simp)).1.all; obtain ⟨q2a, q2b, q2c, q2d, q2e, q2f, q2g, q2h, q2i, q2j⟩ := (hSw.res (P9, rz) (by simp)).1.all; obtain ⟨q3a, q3b, q3c, q3d, q3e, q3f, q3g, q3h, q3i, q3j⟩ := (hSw.res (P10, rw_) (by simp)).1.all; obtain ⟨q4a, q4b, q4c, q4d, q4e, q4f, q4g, q4h, q4i, q4j⟩ := (hSw.res (w.heap.size, n) (by simp)).1.all; obtain ⟨q5a, q5b, q5c, q5d, q5e, q5f, q5g, q5h, q5i, q5j⟩ := (hSw.res (w.heap.size + 1, a) (by simp)).1.all; obtain ⟨q6a, q6b, q6c, q6d, q6e, q6f, q6g, q6h, q6i, q6j⟩ := (hSw.res (w.heap.size + 1 + 1, b) (by simp)).1.all; go_simp; try with_reducible rfl)
  try simp only [Act.put, List.setIfInBounds_toArray, List.set_cons_zero, List.set_cons_succ]
  refine wpAnyH_done (by kernel_rfl) ?_ _
  go_wp2
  go_ret
  exact ⟨rfl, hHeld.bel⟩

theorem walk (n a b : Sx) (w : World) (h0 : n.Ok w) (h1 : a.Ok w) (h2 : b.Ok w) : Calls Try.prog 4 #[.agg #[.bool n.at_, .int .i64 n.buf, .slice n.dm.a n.dm.n n.dm.c, .slice n.fr.a n.fr.n n.fr.c, .bool n.inp, .bool n.all, .slice n.rg.a n.rg.n n.rg.c, .bool n.ord, .slice n.od.a n.od.n n.od.c, .slice n.pl.a n.pl.n n.pl.c], .agg #[.bool a.at_, .int .i64 a.buf, .slice a.dm.a a.dm.n a.dm.c, .slice a.fr.a a.fr.n a.fr.c, .bool a.inp, .bool a.all, .slice a.rg.a a.rg.n a.rg.c, .bool a.ord, .slice a.od.a a.od.n a.od.c, .slice a.pl.a a.pl.n a.pl.c], .agg #[.bool b.at_, .int .i64 b.buf, .slice b.dm.a b.dm.n b.dm.c, .slice b.fr.a b.fr.n b.fr.c, .bool b.inp, .bool b.all, .slice b.rg.a b.rg.n b.rg.c, .bool b.ord, .slice b.od.a b.od.n b.od.c, .slice b.pl.a b.pl.n b.pl.c]] w fun e w' => e = .returned (.bool true) ∧ Below w.heap.size w w' := core n a b w h0 h1 h2
end Go.Proofs.Ytcdflegfjannmaa.stateChains
