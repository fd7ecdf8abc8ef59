/- StateFirst: for every state the law returns true; nothing that was there has turned. Written by state/mk_first.py. -/
import Derived.Test.YtcdflegfjannmaaStaL
namespace Go.Proofs.Ytcdflegfjannmaa.stateFirst
open Go Go.RowKit

/-- The blocks that are read: the argument, and what came of it. -/
structure Fi (w : World) (x r : Sx) (p : Nat) (u : World) : Prop where
  bx : Bs u w.heap.size x
  br : Bs u p r
  okx : x.Ok u
  okr : r.Ok u
  bel : RowKit.Below w.heap.size w u
theorem Fi.on {w : World} {x r : Sx} {p : Nat} {u v : World} (h : Fi w x r p u) (hb : Below u.heap.size u v) : Fi w x r p v := ⟨h.bx.on hb, h.br.on hb, h.okx.on hb, h.okr.on hb, Below.on h.bel hb⟩

/-- The operations of a region of the program, as the print shows them. -/
def ops7 : Array Oper := #[
  { dst := some 53, op := Op.fieldAddr 26 (Operand.tmp 3) 1, type := 0, pos := "law.go:67", after := #[], guard := none },
  { dst := some 54, op := Op.load 3 (Operand.tmp 53), type := 3, pos := "law.go:67", after := #[{ on := 0, ground := Ground.data }], guard := none },
  { dst := some 55, op := Op.fieldAddr 26 (Operand.tmp 1) 1, type := 0, pos := "law.go:67", after := #[], guard := none },
  { dst := some 56, op := Op.load 3 (Operand.tmp 55), type := 3, pos := "law.go:67", after := #[{ on := 2, ground := Ground.data }], guard := none },
  { dst := some 57, op := Op.binOp BinOp.eql 3 (Operand.tmp 54) (Operand.tmp 56) 3, type := 4, pos := "law.go:67", after := #[{ on := 1, ground := Ground.data }, { on := 3, ground := Ground.data }], guard := none },
  { dst := some 58, op := Op.move (Operand.tmp 57), type := 4, pos := "law.go:67", after := #[{ on := 4, ground := Ground.data }], guard := none },
  { dst := some 59, op := Op.fieldAddr 26 (Operand.tmp 3) 3, type := 0, pos := "law.go:67", after := #[{ on := 5, ground := Ground.guard }], guard := some (5, true) },
  { dst := some 60, op := Op.load 23 (Operand.tmp 59), type := 23, pos := "law.go:67", after := #[{ on := 6, ground := Ground.data }, { on := 5, ground := Ground.guard }], guard := some (5, true) },
  { dst := some 61, op := Op.fieldAddr 26 (Operand.tmp 1) 3, type := 0, pos := "law.go:67", after := #[{ on := 5, ground := Ground.guard }], guard := some (5, true) },
  { dst := some 62, op := Op.load 23 (Operand.tmp 61), type := 23, pos := "law.go:67", after := #[{ on := 8, ground := Ground.data }, { on := 5, ground := Ground.guard }], guard := some (5, true) },
  { dst := some 63, op := Op.call { callee := Callee.value (Operand.func 24), args := #[Operand.tmp 60, Operand.tmp 62], argTypes := #[23, 23] }, type := 4, pos := "law.go:67", after := #[{ on := 7, ground := Ground.data }, { on := 9, ground := Ground.data }, { on := 5, ground := Ground.chain }, { on := 5, ground := Ground.guard }], guard := some (5, true) },
  { dst := some 64, op := Op.pick (Operand.tmp 58) (Operand.tmp 63) (Operand.const (Value.bool false)), type := 4, pos := "law.go:67", after := #[{ on := 5, ground := Ground.data }, { on := 10, ground := Ground.data }], guard := none },
  { dst := some 65, op := Op.move (Operand.tmp 64), type := 4, pos := "law.go:67", after := #[{ on := 11, ground := Ground.data }, { on := 10, ground := Ground.chain }], guard := none },
  { dst := some 66, op := Op.fieldAddr 26 (Operand.tmp 3) 8, type := 0, pos := "law.go:67", after := #[{ on := 12, ground := Ground.guard }], guard := some (12, true) },
  { dst := some 67, op := Op.load 23 (Operand.tmp 66), type := 23, pos := "law.go:67", after := #[{ on := 13, ground := Ground.data }, { on := 12, ground := Ground.guard }], guard := some (12, true) },
  { dst := some 68, op := Op.fieldAddr 26 (Operand.tmp 1) 8, type := 0, pos := "law.go:67", after := #[{ on := 12, ground := Ground.guard }], guard := some (12, true) },
  { dst := some 69, op := Op.load 23 (Operand.tmp 68), type := 23, pos := "law.go:67", after := #[{ on := 15, ground := Ground.data }, { on := 12, ground := Ground.guard }], guard := some (12, true) },
  { dst := some 70, op := Op.call { callee := Callee.value (Operand.func 24), args := #[Operand.tmp 67, Operand.tmp 69], argTypes := #[23, 23] }, type := 4, pos := "law.go:67", after := #[{ on := 14, ground := Ground.data }, { on := 16, ground := Ground.data }, { on := 12, ground := Ground.chain }, { on := 12, ground := Ground.guard }], guard := some (12, true) },
  { dst := some 71, op := Op.pick (Operand.tmp 65) (Operand.tmp 70) (Operand.const (Value.bool false)), type := 4, pos := "law.go:67", after := #[{ on := 12, ground := Ground.data }, { on := 17, ground := Ground.data }], guard := none },
  { dst := some 72, op := Op.move (Operand.tmp 71), type := 4, pos := "law.go:67", after := #[{ on := 18, ground := Ground.data }, { on := 17, ground := Ground.chain }], guard := none },
  { dst := some 73, op := Op.fieldAddr 26 (Operand.tmp 3) 5, type := 0, pos := "law.go:67", after := #[{ on := 19, ground := Ground.guard }], guard := some (19, true) },
  { dst := some 74, op := Op.load 4 (Operand.tmp 73), type := 4, pos := "law.go:67", after := #[{ on := 20, ground := Ground.data }, { on := 19, ground := Ground.guard }], guard := some (19, true) },
  { dst := some 75, op := Op.fieldAddr 26 (Operand.tmp 1) 5, type := 0, pos := "law.go:67", after := #[{ on := 19, ground := Ground.guard }], guard := some (19, true) },
  { dst := some 76, op := Op.load 4 (Operand.tmp 75), type := 4, pos := "law.go:67", after := #[{ on := 22, ground := Ground.data }, { on := 19, ground := Ground.guard }], guard := some (19, true) },
  { dst := some 77, op := Op.binOp BinOp.eql 4 (Operand.tmp 74) (Operand.tmp 76) 4, type := 4, pos := "law.go:67", after := #[{ on := 21, ground := Ground.data }, { on := 23, ground := Ground.data }, { on := 19, ground := Ground.guard }], guard := some (19, true) },
  { dst := some 78, op := Op.pick (Operand.tmp 72) (Operand.tmp 77) (Operand.const (Value.bool false)), type := 4, pos := "law.go:67", after := #[{ on := 19, ground := Ground.data }, { on := 24, ground := Ground.data }], guard := none },
  { dst := some 79, op := Op.move (Operand.tmp 78), type := 4, pos := "law.go:67", after := #[{ on := 25, ground := Ground.data }, { on := 19, ground := Ground.chain }], guard := none },
  { dst := some 80, op := Op.fieldAddr 26 (Operand.tmp 3) 2, type := 0, pos := "law.go:67", after := #[{ on := 26, ground := Ground.guard }], guard := some (26, true) },
  { dst := some 81, op := Op.load 22 (Operand.tmp 80), type := 22, pos := "law.go:67", after := #[{ on := 27, ground := Ground.data }, { on := 26, ground := Ground.guard }], guard := some (26, true) },
  { dst := some 82, op := Op.call { callee := Callee.builtin Builtin.len, args := #[Operand.tmp 81], argTypes := #[22] }, type := 3, pos := "law.go:67", after := #[{ on := 28, ground := Ground.data }, { on := 26, ground := Ground.guard }], guard := some (26, true) },
  { dst := some 83, op := Op.binOp BinOp.eql 3 (Operand.tmp 82) (Operand.const (Value.int IntKind.i64 0)) 3, type := 4, pos := "law.go:67", after := #[{ on := 29, ground := Ground.data }, { on := 26, ground := Ground.guard }], guard := some (26, true) },
  { dst := some 84, op := Op.pick (Operand.tmp 79) (Operand.tmp 83) (Operand.const (Value.bool false)), type := 4, pos := "law.go:67", after := #[{ on := 26, ground := Ground.data }, { on := 30, ground := Ground.data }], guard := none },
  { dst := some 85, op := Op.move (Operand.tmp 84), type := 4, pos := "law.go:67", after := #[{ on := 31, ground := Ground.data }, { on := 26, ground := Ground.chain }], guard := none },
  { dst := some 86, op := Op.fieldAddr 26 (Operand.tmp 3) 0, type := 0, pos := "law.go:67", after := #[{ on := 32, ground := Ground.guard }], guard := some (32, true) },
  { dst := some 87, op := Op.load 4 (Operand.tmp 86), type := 4, pos := "law.go:67", after := #[{ on := 33, ground := Ground.data }, { on := 32, ground := Ground.guard }], guard := some (32, true) },
  { dst := some 88, op := Op.unOp UnOp.not 4 (Operand.tmp 87), type := 4, pos := "law.go:67", after := #[{ on := 34, ground := Ground.data }, { on := 32, ground := Ground.guard }], guard := some (32, true) },
  { dst := some 89, op := Op.pick (Operand.tmp 85) (Operand.tmp 88) (Operand.const (Value.bool false)), type := 4, pos := "law.go:67", after := #[{ on := 32, ground := Ground.data }, { on := 35, ground := Ground.data }], guard := none },
  { dst := some 90, op := Op.move (Operand.tmp 89), type := 4, pos := "law.go:67", after := #[{ on := 36, ground := Ground.data }, { on := 32, ground := Ground.chain }], guard := none },
  { dst := some 91, op := Op.fieldAddr 26 (Operand.tmp 3) 4, type := 0, pos := "law.go:67", after := #[{ on := 37, ground := Ground.guard }], guard := some (37, true) },
  { dst := some 92, op := Op.load 4 (Operand.tmp 91), type := 4, pos := "law.go:67", after := #[{ on := 38, ground := Ground.data }, { on := 37, ground := Ground.guard }], guard := some (37, true) },
  { dst := some 93, op := Op.unOp UnOp.not 4 (Operand.tmp 92), type := 4, pos := "law.go:67", after := #[{ on := 39, ground := Ground.data }, { on := 37, ground := Ground.guard }], guard := some (37, true) },
  { dst := some 94, op := Op.pick (Operand.tmp 90) (Operand.tmp 93) (Operand.const (Value.bool false)), type := 4, pos := "law.go:67", after := #[{ on := 37, ground := Ground.data }, { on := 40, ground := Ground.data }], guard := none },
  { dst := some 95, op := Op.move (Operand.tmp 94), type := 4, pos := "law.go:67", after := #[{ on := 41, ground := Ground.data }, { on := 37, ground := Ground.chain }], guard := none },
  { dst := some 96, op := Op.fieldAddr 26 (Operand.tmp 3) 7, type := 0, pos := "law.go:67", after := #[{ on := 42, ground := Ground.guard }], guard := some (42, true) },
  { dst := some 97, op := Op.load 4 (Operand.tmp 96), type := 4, pos := "law.go:67", after := #[{ on := 43, ground := Ground.data }, { on := 42, ground := Ground.guard }], guard := some (42, true) },
  { dst := some 98, op := Op.unOp UnOp.not 4 (Operand.tmp 97), type := 4, pos := "law.go:67", after := #[{ on := 44, ground := Ground.data }, { on := 42, ground := Ground.guard }], guard := some (42, true) },
  { dst := some 99, op := Op.pick (Operand.tmp 95) (Operand.tmp 98) (Operand.const (Value.bool false)), type := 4, pos := "law.go:67", after := #[{ on := 42, ground := Ground.data }, { on := 45, ground := Ground.data }], guard := none },
  { dst := some 100, op := Op.move (Operand.tmp 99), type := 4, pos := "law.go:67", after := #[{ on := 46, ground := Ground.data }, { on := 42, ground := Ground.chain }], guard := none },
  { dst := some 101, op := Op.fieldAddr 26 (Operand.tmp 3) 9, type := 0, pos := "law.go:67", after := #[{ on := 47, ground := Ground.guard }], guard := some (47, true) },
  { dst := some 102, op := Op.load 24 (Operand.tmp 101), type := 24, pos := "law.go:67", after := #[{ on := 48, ground := Ground.data }, { on := 47, ground := Ground.guard }], guard := some (47, true) },
  { dst := some 103, op := Op.fieldAddr 26 (Operand.tmp 1) 9, type := 0, pos := "law.go:67", after := #[{ on := 47, ground := Ground.guard }], guard := some (47, true) },
  { dst := some 104, op := Op.load 24 (Operand.tmp 103), type := 24, pos := "law.go:67", after := #[{ on := 50, ground := Ground.data }, { on := 47, ground := Ground.guard }], guard := some (47, true) },
  { dst := some 105, op := Op.call { callee := Callee.value (Operand.func 20), args := #[Operand.tmp 102, Operand.tmp 104], argTypes := #[24, 24] }, type := 4, pos := "law.go:67", after := #[{ on := 49, ground := Ground.data }, { on := 51, ground := Ground.data }, { on := 47, ground := Ground.chain }, { on := 47, ground := Ground.guard }], guard := some (47, true) },
  { dst := some 106, op := Op.pick (Operand.tmp 100) (Operand.tmp 105) (Operand.const (Value.bool false)), type := 4, pos := "law.go:67", after := #[{ on := 47, ground := Ground.data }, { on := 52, ground := Ground.data }], guard := none },
  { dst := some 107, op := Op.move (Operand.tmp 106), type := 4, pos := "law.go:67", after := #[{ on := 53, ground := Ground.data }, { on := 52, ground := Ground.chain }], guard := none },
  { dst := some 108, op := Op.load 26 (Operand.tmp 3), type := 26, pos := "law.go:67", after := #[{ on := 54, ground := Ground.guard }], guard := some (54, true) },
  { dst := some 109, op := Op.build 26 #[], type := 26, pos := "law.go:67", after := #[{ on := 54, ground := Ground.guard }], guard := some (54, true) },
  { dst := some 110, op := Op.call { callee := Callee.value (Operand.func 15), args := #[Operand.tmp 108, Operand.tmp 109], argTypes := #[26, 26] }, type := 26, pos := "law.go:67", after := #[{ on := 55, ground := Ground.data }, { on := 56, ground := Ground.data }, { on := 54, ground := Ground.chain }, { on := 54, ground := Ground.guard }], guard := some (54, true) },
  { dst := some 111, op := Op.load 26 (Operand.tmp 3), type := 26, pos := "law.go:67", after := #[{ on := 54, ground := Ground.guard }], guard := some (54, true) },
  { dst := some 112, op := Op.call { callee := Callee.value (Operand.func 19), args := #[Operand.tmp 110, Operand.tmp 111], argTypes := #[26, 26] }, type := 4, pos := "law.go:67", after := #[{ on := 57, ground := Ground.data }, { on := 58, ground := Ground.data }, { on := 57, ground := Ground.chain }, { on := 54, ground := Ground.guard }], guard := some (54, true) },
  { dst := some 113, op := Op.pick (Operand.tmp 107) (Operand.tmp 112) (Operand.const (Value.bool false)), type := 4, pos := "law.go:67", after := #[{ on := 54, ground := Ground.data }, { on := 59, ground := Ground.data }], guard := none },
  { dst := some 114, op := Op.move (Operand.tmp 113), type := 4, pos := "law.go:67", after := #[{ on := 60, ground := Ground.data }, { on := 59, ground := Ground.chain }], guard := none },
  { dst := some 115, op := Op.call { callee := Callee.value (Operand.func 8), args := #[], argTypes := #[] }, type := 4, pos := "law.go:67", after := #[{ on := 61, ground := Ground.chain }, { on := 61, ground := Ground.guard }], guard := some (61, true) },
  { dst := some 116, op := Op.pick (Operand.tmp 114) (Operand.tmp 115) (Operand.const (Value.bool false)), type := 4, pos := "law.go:67", after := #[{ on := 61, ground := Ground.data }, { on := 62, ground := Ground.data }], guard := none },
  { dst := some 2, op := Op.assign (Operand.tmp 116), type := 4, pos := "law.go:67", after := ([{ on := 63, ground := Ground.data }, { on := 62, ground := Ground.chain }, { on := 0, ground := Ground.phase }, { on := 1, ground := Ground.phase }, { on := 2, ground := Ground.phase }, { on := 3, ground := Ground.phase }, { on := 4, ground := Ground.phase }, { on := 5, ground := Ground.phase }, { on := 6, ground := Ground.phase }, { on := 7, ground := Ground.phase }, { on := 8, ground := Ground.phase }, { on := 9, ground := Ground.phase }, { on := 10, ground := Ground.phase }, { on := 11, ground := Ground.phase }, { on := 12, ground := Ground.phase }, { on := 13, ground := Ground.phase }, { on := 14, ground := Ground.phase }, { on := 15, ground := Ground.phase }, { on := 16, ground := Ground.phase }, { on := 17, ground := Ground.phase }, { on := 18, ground := Ground.phase }, { on := 19, ground := Ground.phase }, { on := 20, ground := Ground.phase }, { on := 21, ground := Ground.phase }, { on := 22, ground := Ground.phase }, { on := 23, ground := Ground.phase }, { on := 24, ground := Ground.phase }, { on := 25, ground := Ground.phase }, { on := 26, ground := Ground.phase }, { on := 27, ground := Ground.phase }, { on := 28, ground := Ground.phase }, { on := 29, ground := Ground.phase }, { on := 30, ground := Ground.phase }].append [{ on := 31, ground := Ground.phase }, { on := 32, ground := Ground.phase }, { on := 33, ground := Ground.phase }, { on := 34, ground := Ground.phase }, { on := 35, ground := Ground.phase }, { on := 36, ground := Ground.phase }, { on := 37, ground := Ground.phase }, { on := 38, ground := Ground.phase }, { on := 39, ground := Ground.phase }, { on := 40, ground := Ground.phase }, { on := 41, ground := Ground.phase }, { on := 42, ground := Ground.phase }, { on := 43, ground := Ground.phase }, { on := 44, ground := Ground.phase }, { on := 45, ground := Ground.phase }, { on := 46, ground := Ground.phase }, { on := 47, ground := Ground.phase }, { on := 48, ground := Ground.phase }, { on := 49, ground := Ground.phase }, { on := 50, ground := Ground.phase }, { on := 51, ground := Ground.phase }, { on := 52, ground := Ground.phase }, { on := 53, ground := Ground.phase }, { on := 54, ground := Ground.phase }, { on := 55, ground := Ground.phase }, { on := 56, ground := Ground.phase }, { on := 57, ground := Ground.phase }, { on := 58, ground := Ground.phase }, { on := 59, ground := Ground.phase }, { on := 60, ground := Ground.phase }, { on := 61, ground := Ground.phase }, { on := 62, ground := Ground.phase }, { on := 63, ground := Ground.phase }]).toArray, guard := none }]

set_option maxRecDepth 100000 in
set_option maxHeartbeats 8000000 in
theorem core (x : Sx) (w : World) (ok : x.Ok w) :
    Calls Try.prog 5 #[.agg #[.bool x.at_, .int .i64 x.buf, .slice x.dm.a x.dm.n x.dm.c, .slice x.fr.a x.fr.n x.fr.c, .bool x.inp, .bool x.all, .slice x.rg.a x.rg.n x.rg.c, .bool x.ord, .slice x.od.a x.od.n x.od.c, .slice x.pl.a x.pl.n x.pl.c]] w fun e w' => e = .returned (.bool true) ∧ Below w.heap.size w w' := by
  have hb0 := bel_new w (.cells #[.bool x.at_, .int .i64 x.buf, .slice x.dm.a x.dm.n x.dm.c, .slice x.fr.a x.fr.n x.fr.c, .bool x.inp, .bool x.all, .slice x.rg.a x.rg.n x.rg.c, .bool x.ord, .slice x.od.a x.od.n x.od.c, .slice x.pl.a x.pl.n x.pl.c] 26)
  have CF := hid (few_any x _ (ok.on hb0))
  have HOK := hid (ok.on hb0)
  have HB := hid hb0
  have HBX := hid (bs_new w x)
  have HLN := hid (fun h => few_len ok h)
  clear ok hb0
  go_enter Try.func5, Try.ntmps5
  cases hf : few x.q
  · rw [hf] at CF
    go_wp2_with fail
    refine CF.out.mono ?_
    rintro e w1 ⟨rfl, hb1⟩
    have HB1 := hid (Below.on HB.out hb1)
    clear hb1
    go_wp2_with fail
    refine (awake_any _).mono ?_
    rintro e w2 ⟨rfl, hb2⟩
    have HB2 := hid (Below.on HB1.out hb2)
    clear hb2
    go_wp2
    go_ret
    exact ⟨rfl, HB2.out⟩
  rw [hf] at CF
  have HLN2 := hid (len_mono (HLN.out hf) (show 60 ≤ 1000 by omega))
  have HLN3 := hid (HLN.out hf)
  clear hf HLN
  go_wp2_with fail
  refine CF.out.mono ?_
  rintro e w1 ⟨rfl, hb1⟩
  have HB1 := hid (Below.on HB.out hb1)
  have HX1 := hid (HOK.out.on hb1)
  have HBX1 := hid (HBX.out.on hb1)
  obtain ⟨xa, xb, xc, xd, xe, xf, xg, xh, xi, xj⟩ := HBX1.out.all
  have CA := hid (apply_any x sx0 w1 HX1.out (sx0_ok _) HLN2.out (by exact ⟨Nat.zero_le _, Nat.zero_le _, Nat.zero_le _, Nat.zero_le _, Nat.zero_le _⟩))
  clear hb1 HB HBX HOK CF
  go_wp2_with fail
  refine CA.out.mono ?_
  rintro e w2 ⟨r, rfl, okr, -, hq, hb2⟩
  rw [sx0_q, apl_sq0] at hq
  have b3 := bel_new w2 (.cells #[.bool r.at_, .int .i64 r.buf, .slice r.dm.a r.dm.n r.dm.c, .slice r.fr.a r.fr.n r.fr.c, .bool r.inp, .bool r.all, .slice r.rg.a r.rg.n r.rg.c, .bool r.ord, .slice r.od.a r.od.n r.od.c, .slice r.pl.a r.pl.n r.pl.c] 26)
  have b23 := Below.on hb2 b3
  have HF3 : Hid (Fi w x r w2.heap.size (w2.alloc (.cells #[.bool r.at_, .int .i64 r.buf, .slice r.dm.a r.dm.n r.dm.c, .slice r.fr.a r.fr.n r.fr.c, .bool r.inp, .bool r.all, .slice r.rg.a r.rg.n r.rg.c, .bool r.ord, .slice r.od.a r.od.n r.od.c, .slice r.pl.a r.pl.n r.pl.c] 26))) := ⟨HBX1.out.on b23, bs_new w2 r, HX1.out.on b23, okr.on b3, Below.on HB1.out b23⟩
  have HLR := hid (len_of okr (k := 60) (by
    obtain ⟨l2, l3, l6, l8, l9⟩ := HLN3.out
    have h1 : x.fr.l.length = x.fr.n := HX1.out.fr.len
    have h2 : x.rg.l.length = x.rg.n := HX1.out.rg.len
    have h3 : x.od.l.length = x.od.n := HX1.out.od.len
    have h4 : x.pl.l.length = x.pl.n := HX1.out.pl.len
    rw [hq]
    refine ⟨Nat.zero_le _, ?_, ?_, ?_, ?_⟩
    · show x.fr.l.length ≤ 60; omega
    · show x.rg.l.length ≤ 60; omega
    · show x.od.l.length ≤ 60; omega
    · show x.pl.l.length ≤ 60; omega))
  have hbuf : (r.buf == x.buf) = true := by rw [beq_iff_eq]; exact congrArg Sq.buf hq
  have hall : (r.all == x.all) = true := by rw [beq_iff_eq]; exact congrArg Sq.all hq
  have HAT : Hid (r.at_ = false ∧ r.inp = false ∧ r.ord = false) := ⟨congrArg Sq.at_ hq, congrArg Sq.inp hq, congrArg Sq.ord hq⟩
  have hdm : ((r.dm.n : Int) == 0) = true := by
    have h1 : r.dm.l = [] := congrArg Sq.dm hq
    have h2 := okr.dm.len
    rw [h1] at h2
    rw [← h2]
    rfl
  have efr : r.fr.l = x.fr.l := congrArg Sq.fr hq
  have eod : r.od.l = x.od.l := congrArg Sq.od hq
  have epl : r.pl.l = x.pl.l := congrArg Sq.pl hq
  have C10 : Hid (∀ u, Fi w x r w2.heap.size u → Calls Try.prog 24 #[.slice r.fr.a r.fr.n r.fr.c, .slice x.fr.a x.fr.n x.fr.c] u fun e w' => e = .returned (.bool true) ∧ RowKit.Below u.heap.size u w') := fun u h => by
    have := sameints_any _ _ _ _ _ _ _ _ _ h.okr.fr h.okx.fr
    rw [efr, leqs_same] at this
    exact this.mono fun e w' ⟨he, q, hw⟩ => ⟨he, by rw [hw]; exact below_drewN (Below.refl _ _) q⟩
  have C17 : Hid (∀ u, Fi w x r w2.heap.size u → Calls Try.prog 24 #[.slice r.od.a r.od.n r.od.c, .slice x.od.a x.od.n x.od.c] u fun e w' => e = .returned (.bool true) ∧ RowKit.Below u.heap.size u w') := fun u h => by
    have := sameints_any _ _ _ _ _ _ _ _ _ h.okr.od h.okx.od
    rw [eod, leqs_same] at this
    exact this.mono fun e w' ⟨he, q, hw⟩ => ⟨he, by rw [hw]; exact below_drewN (Below.refl _ _) q⟩
  have C52 : Hid (∀ u, Fi w x r w2.heap.size u → Calls Try.prog 20 #[.slice r.pl.a r.pl.n r.pl.c, .slice x.pl.a x.pl.n x.pl.c] u fun e w' => e = .returned (.bool true) ∧ RowKit.Below u.heap.size u w') := fun u h => by
    have := samechildren_any _ _ _ _ _ _ _ _ _ h.okr.pl h.okx.pl
    rw [epl, leqs_same] at this
    exact this.mono fun e w' ⟨he, q, hw⟩ => ⟨he, by rw [hw]; exact below_drewN (Below.refl _ _) q⟩
  have HQ : Hid (apl r.q sq0 = r.q) := by
    rw [Hid, apl_sq0, hq]
  have C57 : Hid (∀ u, Fi w x r w2.heap.size u → Calls Try.prog 15 #[.agg #[.bool r.at_, .int .i64 r.buf, .slice r.dm.a r.dm.n r.dm.c, .slice r.fr.a r.fr.n r.fr.c, .bool r.inp, .bool r.all, .slice r.rg.a r.rg.n r.rg.c, .bool r.ord, .slice r.od.a r.od.n r.od.c, .slice r.pl.a r.pl.n r.pl.c], .agg #[.bool false, .int .i64 0, .slice none 0 0, .slice none 0 0, .bool false, .bool false, .slice none 0 0, .bool false, .slice none 0 0, .slice none 0 0]] u (Rst u r.q)) := fun u h => by
    have h1 := apply_any r sx0 u h.okr (sx0_ok _) (len_mono HLR.out (by omega)) (by exact ⟨Nat.zero_le _, Nat.zero_le _, Nat.zero_le _, Nat.zero_le _, Nat.zero_le _⟩)
    rw [sx0_q, HQ.out] at h1
    exact h1
  clear okr hq hb2 b3 b23 efr eod epl CA HX1 HBX1 HB1 xa xb xc xd xe xf xg xh xi xj HLN2 HLN3
  go_wp2_with fail
  refine (first_any _).mono ?_
  rintro e w4 ⟨f, rfl, okf, -, hf, hb4⟩
  have hF4 := HF3.out.on hb4
  have b5 := bel_new w4 (.cells #[.bool f.at_, .int .i64 f.buf, .slice f.dm.a f.dm.n f.dm.c, .slice f.fr.a f.fr.n f.fr.c, .bool f.inp, .bool f.all, .slice f.rg.a f.rg.n f.rg.c, .bool f.ord, .slice f.od.a f.od.n f.od.c, .slice f.pl.a f.pl.n f.pl.c] 26)
  have HF5 := hid (hF4.on b5)
  have CN := none_any f _ (okf.on b5)
  rw [hf, show non sqF = true from rfl] at CN
  have HCN := hid CN
  have f1 : f.od.n = 1 := by
    have h1 : f.od.l = [[0]] := congrArg Sq.od hf
    have h2 := okf.od.len
    rw [h1] at h2
    exact h2.symm
  obtain ⟨b, off, z0, hoda, hbl, hz, cz⟩ := okf.od.el1 (j := 0) (by omega)
  have hz0 : z0 = 0 := by
    have h1 : f.od.l = [[0]] := congrArg Sq.od hf
    rw [h1] at hz
    simpa using hz.symm
  subst hz0
  rw [Nat.add_zero] at cz
  have cz5 : (w4.alloc (.cells #[.bool f.at_, .int .i64 f.buf, .slice f.dm.a f.dm.n f.dm.c, .slice f.fr.a f.fr.n f.fr.c, .bool f.inp, .bool f.all, .slice f.rg.a f.rg.n f.rg.c, .bool f.ord, .slice f.od.a f.od.n f.od.c, .slice f.pl.a f.pl.n f.pl.c] 26)).cell? ⟨b, off, none⟩ = some (.int .i64 0) := by rw [b5.cell hbl]; exact cz
  have f2 : f.all = true := congrArg Sq.all hf
  have f3 : f.buf = 0 := congrArg Sq.buf hf
  have f4 : f.fr.n = 0 := by have h1 : f.fr.l = [] := congrArg Sq.fr hf; have h2 := okf.fr.len; rw [h1] at h2; exact h2.symm
  have f5 : f.pl.n = 0 := by have h1 : f.pl.l = [] := congrArg Sq.pl hf; have h2 := okf.pl.len; rw [h1] at h2; exact h2.symm
  have f6 : f.rg.n = 0 := by have h1 : f.rg.l = [] := congrArg Sq.rg hf; have h2 := okf.rg.len; rw [h1] at h2; exact h2.symm
  obtain ⟨fa, fb, ⟨fda, fdn, fdc, fdl⟩, ⟨ffa, ffn, ffc, ffl⟩, fi, fall, ⟨fra, frn, frc, frl⟩, fo, ⟨foa, fon, foc, fol⟩, ⟨fpa, fpn, fpc, fpl⟩⟩ := f
  dsimp only at f1 f2 f3 f4 f5 f6 hoda HCN HF5 cz5 ⊢
  subst f1 f2 f3 f4 f5 f6 hoda
  clear okf hf hb4 hF4 b5 CN hz cz HF3
  go_wp2_with fail
  refine HCN.out.mono ?_
  rintro e w6 ⟨rfl, hb6⟩
  have HF6 := hid (HF5.out.on hb6)
  clear hb6 HF5 HCN cz5
  go_upto_if 52 with (fail)
  go_cut [0, 4] (fun _ _ wc => Fi w x r w2.heap.size wc)
  case first =>
    go_wp2_with fail
    go_meet
    exact HF6.out
  have HF7 := hid hcut
  clear hcut HF6
  go_upto_region 7 with fail
  refine swap_ops (ops' := ops7) (by kernel_rfl) ?_
  refine wp_region_held_drew (S := Fi w x r w2.heap.size) (by kernel_rfl) ?hh (fun hHeld => ?_)
  case hh => exact (HF7.out.on (Below.refl _ _).drew)
  generalize World.drew _ = W0 at hHeld ⊢
  try dsimp only at hHeld
  refine wpAnyH_take (i := 0) (v := ?_) (oi := { dst := some 53, op := Op.fieldAddr 26 (Operand.tmp 3) 1, type := 0, pos := "law.go:67", after := #[], guard := none }) (by kernel_rfl) (by kernel_rfl) (by kernel_rfl) (by kernel_rfl) (fun _ _ _ h => h) (Or.inl ⟨by kernel_rfl, ?hy0⟩) (by assumption) ?_
  case hy0 => (intro w hSw; (try dsimp only at hSw); obtain ⟨xa, xb, xc, xd, xe, xf, xg, xh, xi, xj⟩ := hSw.bx.all; obtain ⟨ra, rb, rc, rd, re, rf, rg, rh, ri, rj⟩ := hSw.br.all; go_simp; try with_reducible rfl)
  try simp only [Act.put, List.setIfInBounds_toArray, List.set_cons_zero, List.set_cons_succ]
  refine wpAnyH_take (i := 1) (v := ?_) (oi := { dst := some 54, op := Op.load 3 (Operand.tmp 53), type := 3, pos := "law.go:67", after := #[{ on := 0, ground := Ground.data }], guard := none }) (by kernel_rfl) (by kernel_rfl) (by kernel_rfl) (by kernel_rfl) (fun _ _ _ h => h) (Or.inl ⟨by kernel_rfl, ?hy1⟩) (by assumption) ?_
  case hy1 => (intro w hSw; (try dsimp only at hSw); obtain ⟨xa, xb, xc, xd, xe, xf, xg, xh, xi, xj⟩ := hSw.bx.all; obtain ⟨ra, rb, rc, rd, re, rf, rg, rh, ri, rj⟩ := hSw.br.all; go_simp; try with_reducible rfl)
  try simp only [Act.put, List.setIfInBounds_toArray, List.set_cons_zero, List.set_cons_succ]
  refine wpAnyH_take (i := 2) (v := ?_) (oi := { dst := some 55, op := Op.fieldAddr 26 (Operand.tmp 1) 1, type := 0, pos := "law.go:67", after := #[], guard := none }) (by kernel_rfl) (by kernel_rfl) (by kernel_rfl) (by kernel_rfl) (fun _ _ _ h => h) (Or.inl ⟨by kernel_rfl, ?hy2⟩) (by assumption) ?_
  case hy2 => (intro w hSw; (try dsimp only at hSw); obtain ⟨xa, xb, xc, xd, xe, xf, xg, xh, xi, xj⟩ := hSw.bx.all; obtain ⟨ra, rb, rc, rd, re, rf, rg, rh, ri, rj⟩ := hSw.br.all; go_simp; try with_reducible rfl)
  try simp only [Act.put, List.setIfInBounds_toArray, List.set_cons_zero, List.set_cons_succ]
  refine wpAnyH_take (i := 3) (v := ?_) (oi := { dst := some 56, op := Op.load 3 (Operand.tmp 55), type := 3, pos := "law.go:67", after := #[{ on := 2, ground := Ground.data }], guard := none }) (by kernel_rfl) (by kernel_rfl) (by kernel_rfl) (by kernel_rfl) (fun _ _ _ h => h) (Or.inl ⟨by kernel_rfl, ?hy3⟩) (by assumption) ?_
  case hy3 => (intro w hSw; (try dsimp only at hSw); obtain ⟨xa, xb, xc, xd, xe, xf, xg, xh, xi, xj⟩ := hSw.bx.all; obtain ⟨ra, rb, rc, rd, re, rf, rg, rh, ri, rj⟩ := hSw.br.all; go_simp; try with_reducible rfl)
  try simp only [Act.put, List.setIfInBounds_toArray, List.set_cons_zero, List.set_cons_succ]
  refine wpAnyH_take (i := 4) (v := ?_) (oi := { dst := some 57, op := Op.binOp BinOp.eql 3 (Operand.tmp 54) (Operand.tmp 56) 3, type := 4, pos := "law.go:67", after := #[{ on := 1, ground := Ground.data }, { on := 3, ground := Ground.data }], guard := none }) (by kernel_rfl) (by kernel_rfl) (by kernel_rfl) (by kernel_rfl) (fun _ _ _ h => h) (Or.inl ⟨by kernel_rfl, ?hy4⟩) (by assumption) ?_
  case hy4 => (intro w hSw; (try dsimp only at hSw); obtain ⟨xa, xb, xc, xd, xe, xf, xg, xh, xi, xj⟩ := hSw.bx.all; obtain ⟨ra, rb, rc, rd, re, rf, rg, rh, ri, rj⟩ := hSw.br.all; go_simp; try with_reducible rfl)
  try simp only [Act.put, List.setIfInBounds_toArray, List.set_cons_zero, List.set_cons_succ]
  refine wpAnyH_take (i := 5) (v := ?_) (oi := { dst := some 58, op := Op.move (Operand.tmp 57), type := 4, pos := "law.go:67", after := #[{ on := 4, ground := Ground.data }], guard := none }) (by kernel_rfl) (by kernel_rfl) (by kernel_rfl) (by kernel_rfl) (fun _ _ _ h => h) (Or.inl ⟨by kernel_rfl, ?hy5⟩) (by assumption) ?_
  case hy5 => (intro w hSw; (try dsimp only at hSw); obtain ⟨xa, xb, xc, xd, xe, xf, xg, xh, xi, xj⟩ := hSw.bx.all; obtain ⟨ra, rb, rc, rd, re, rf, rg, rh, ri, rj⟩ := hSw.br.all; go_simp; try with_reducible rfl)
  try simp only [Act.put, List.setIfInBounds_toArray, List.set_cons_zero, List.set_cons_succ]
  refine wpAnyH_take (i := 6) (v := ?_) (oi := { dst := some 59, op := Op.fieldAddr 26 (Operand.tmp 3) 3, type := 0, pos := "law.go:67", after := #[{ on := 5, ground := Ground.guard }], guard := some (5, true) }) (by kernel_rfl) (by kernel_rfl) (by kernel_rfl) (by kernel_rfl) (fun _ _ _ h => h) (Or.inl ⟨by kernel_rfl, ?hy6⟩) (by assumption) ?_
  case hy6 => (intro w hSw; (try dsimp only at hSw); obtain ⟨xa, xb, xc, xd, xe, xf, xg, xh, xi, xj⟩ := hSw.bx.all; obtain ⟨ra, rb, rc, rd, re, rf, rg, rh, ri, rj⟩ := hSw.br.all; go_simp; try with_reducible rfl)
  try simp only [Act.put, List.setIfInBounds_toArray, List.set_cons_zero, List.set_cons_succ]
  refine wpAnyH_take (i := 7) (v := ?_) (oi := { dst := some 60, op := Op.load 23 (Operand.tmp 59), type := 23, pos := "law.go:67", after := #[{ on := 6, ground := Ground.data }, { on := 5, ground := Ground.guard }], guard := some (5, true) }) (by kernel_rfl) (by kernel_rfl) (by kernel_rfl) (by kernel_rfl) (fun _ _ _ h => h) (Or.inl ⟨by kernel_rfl, ?hy7⟩) (by assumption) ?_
  case hy7 => (intro w hSw; (try dsimp only at hSw); obtain ⟨xa, xb, xc, xd, xe, xf, xg, xh, xi, xj⟩ := hSw.bx.all; obtain ⟨ra, rb, rc, rd, re, rf, rg, rh, ri, rj⟩ := hSw.br.all; go_simp; try with_reducible rfl)
  try simp only [Act.put, List.setIfInBounds_toArray, List.set_cons_zero, List.set_cons_succ]
  refine wpAnyH_take (i := 8) (v := ?_) (oi := { dst := some 61, op := Op.fieldAddr 26 (Operand.tmp 1) 3, type := 0, pos := "law.go:67", after := #[{ on := 5, ground := Ground.guard }], guard := some (5, true) }) (by kernel_rfl) (by kernel_rfl) (by kernel_rfl) (by kernel_rfl) (fun _ _ _ h => h) (Or.inl ⟨by kernel_rfl, ?hy8⟩) (by assumption) ?_
  case hy8 => (intro w hSw; (try dsimp only at hSw); obtain ⟨xa, xb, xc, xd, xe, xf, xg, xh, xi, xj⟩ := hSw.bx.all; obtain ⟨ra, rb, rc, rd, re, rf, rg, rh, ri, rj⟩ := hSw.br.all; go_simp; try with_reducible rfl)
  try simp only [Act.put, List.setIfInBounds_toArray, List.set_cons_zero, List.set_cons_succ]
  refine wpAnyH_take (i := 9) (v := ?_) (oi := { dst := some 62, op := Op.load 23 (Operand.tmp 61), type := 23, pos := "law.go:67", after := #[{ on := 8, ground := Ground.data }, { on := 5, ground := Ground.guard }], guard := some (5, true) }) (by kernel_rfl) (by kernel_rfl) (by kernel_rfl) (by kernel_rfl) (fun _ _ _ h => h) (Or.inl ⟨by kernel_rfl, ?hy9⟩) (by assumption) ?_
  case hy9 => (intro w hSw; (try dsimp only at hSw); obtain ⟨xa, xb, xc, xd, xe, xf, xg, xh, xi, xj⟩ := hSw.bx.all; obtain ⟨ra, rb, rc, rd, re, rf, rg, rh, ri, rj⟩ := hSw.br.all; go_simp; try with_reducible rfl)
  try simp only [Act.put, List.setIfInBounds_toArray, List.set_cons_zero, List.set_cons_succ]
  refine wpAnyH_ready (rs := [10]) (by kernel_rfl) (by simp) ?_
  refine AllReadyH.cons (o := { dst := some 63, op := Op.call { callee := Callee.value (Operand.func 24), args := #[Operand.tmp 60, Operand.tmp 62], argTypes := #[23, 23] }, type := 4, pos := "law.go:67", after := #[{ on := 7, ground := Ground.data }, { on := 9, ground := Ground.data }, { on := 5, ground := Ground.chain }, { on := 5, ground := Ground.guard }], guard := some (5, true) }) (by kernel_rfl) (fun K hK => ?_) AllReadyH.nil
  rw [if_pos (by kernel_rfl)]
  go_simp
  go_wp2_with fail
  refine (C10.out _ hHeld).mono ?_
  rintro e W10 ⟨rfl, hb⟩
  have hM := hHeld.on hb
  refine hK.out _ _ hM (fun _ => ?_)
  clear hK K hHeld hb
  have hHeld := hM
  clear hM
  try simp only [Act.put, List.setIfInBounds_toArray, List.set_cons_zero, List.set_cons_succ]
  refine wpAnyH_take (i := 11) (v := ?_) (oi := { dst := some 64, op := Op.pick (Operand.tmp 58) (Operand.tmp 63) (Operand.const (Value.bool false)), type := 4, pos := "law.go:67", after := #[{ on := 5, ground := Ground.data }, { on := 10, ground := Ground.data }], guard := none }) (by kernel_rfl) (by kernel_rfl) (by kernel_rfl) (by kernel_rfl) (fun _ _ _ h => h) (Or.inl ⟨by kernel_rfl, ?hy11⟩) (by assumption) ?_
  case hy11 => (intro w hSw; (try dsimp only at hSw); obtain ⟨xa, xb, xc, xd, xe, xf, xg, xh, xi, xj⟩ := hSw.bx.all; obtain ⟨ra, rb, rc, rd, re, rf, rg, rh, ri, rj⟩ := hSw.br.all; go_simp; try with_reducible rfl)
  try simp only [Act.put, List.setIfInBounds_toArray, List.set_cons_zero, List.set_cons_succ]
  refine wpAnyH_take (i := 12) (v := ?_) (oi := { dst := some 65, op := Op.move (Operand.tmp 64), type := 4, pos := "law.go:67", after := #[{ on := 11, ground := Ground.data }, { on := 10, ground := Ground.chain }], guard := none }) (by kernel_rfl) (by kernel_rfl) (by kernel_rfl) (by kernel_rfl) (fun _ _ _ h => h) (Or.inl ⟨by kernel_rfl, ?hy12⟩) (by assumption) ?_
  case hy12 => (intro w hSw; (try dsimp only at hSw); obtain ⟨xa, xb, xc, xd, xe, xf, xg, xh, xi, xj⟩ := hSw.bx.all; obtain ⟨ra, rb, rc, rd, re, rf, rg, rh, ri, rj⟩ := hSw.br.all; go_simp; try with_reducible rfl)
  try simp only [Act.put, List.setIfInBounds_toArray, List.set_cons_zero, List.set_cons_succ]
  refine wpAnyH_take (i := 13) (v := ?_) (oi := { dst := some 66, op := Op.fieldAddr 26 (Operand.tmp 3) 8, type := 0, pos := "law.go:67", after := #[{ on := 12, ground := Ground.guard }], guard := some (12, true) }) (by kernel_rfl) (by kernel_rfl) (by kernel_rfl) (by kernel_rfl) (fun _ _ _ h => h) (Or.inl ⟨by kernel_rfl, ?hy13⟩) (by assumption) ?_
  case hy13 => (intro w hSw; (try dsimp only at hSw); obtain ⟨xa, xb, xc, xd, xe, xf, xg, xh, xi, xj⟩ := hSw.bx.all; obtain ⟨ra, rb, rc, rd, re, rf, rg, rh, ri, rj⟩ := hSw.br.all; go_simp; try with_reducible rfl)
  try simp only [Act.put, List.setIfInBounds_toArray, List.set_cons_zero, List.set_cons_succ]
  refine wpAnyH_take (i := 14) (v := ?_) (oi := { dst := some 67, op := Op.load 23 (Operand.tmp 66), type := 23, pos := "law.go:67", after := #[{ on := 13, ground := Ground.data }, { on := 12, ground := Ground.guard }], guard := some (12, true) }) (by kernel_rfl) (by kernel_rfl) (by kernel_rfl) (by kernel_rfl) (fun _ _ _ h => h) (Or.inl ⟨by kernel_rfl, ?hy14⟩) (by assumption) ?_
  case hy14 => (intro w hSw; (try dsimp only at hSw); obtain ⟨xa, xb, xc, xd, xe, xf, xg, xh, xi, xj⟩ := hSw.bx.all; obtain ⟨ra, rb, rc, rd, re, rf, rg, rh, ri, rj⟩ := hSw.br.all; go_simp; try with_reducible rfl)
  try simp only [Act.put, List.setIfInBounds_toArray, List.set_cons_zero, List.set_cons_succ]
  refine wpAnyH_take (i := 15) (v := ?_) (oi := { dst := some 68, op := Op.fieldAddr 26 (Operand.tmp 1) 8, type := 0, pos := "law.go:67", after := #[{ on := 12, ground := Ground.guard }], guard := some (12, true) }) (by kernel_rfl) (by kernel_rfl) (by kernel_rfl) (by kernel_rfl) (fun _ _ _ h => h) (Or.inl ⟨by kernel_rfl, ?hy15⟩) (by assumption) ?_
  case hy15 => (intro w hSw; (try dsimp only at hSw); obtain ⟨xa, xb, xc, xd, xe, xf, xg, xh, xi, xj⟩ := hSw.bx.all; obtain ⟨ra, rb, rc, rd, re, rf, rg, rh, ri, rj⟩ := hSw.br.all; go_simp; try with_reducible rfl)
  try simp only [Act.put, List.setIfInBounds_toArray, List.set_cons_zero, List.set_cons_succ]
  refine wpAnyH_take (i := 16) (v := ?_) (oi := { dst := some 69, op := Op.load 23 (Operand.tmp 68), type := 23, pos := "law.go:67", after := #[{ on := 15, ground := Ground.data }, { on := 12, ground := Ground.guard }], guard := some (12, true) }) (by kernel_rfl) (by kernel_rfl) (by kernel_rfl) (by kernel_rfl) (fun _ _ _ h => h) (Or.inl ⟨by kernel_rfl, ?hy16⟩) (by assumption) ?_
  case hy16 => (intro w hSw; (try dsimp only at hSw); obtain ⟨xa, xb, xc, xd, xe, xf, xg, xh, xi, xj⟩ := hSw.bx.all; obtain ⟨ra, rb, rc, rd, re, rf, rg, rh, ri, rj⟩ := hSw.br.all; go_simp; try with_reducible rfl)
  try simp only [Act.put, List.setIfInBounds_toArray, List.set_cons_zero, List.set_cons_succ]
  refine wpAnyH_ready (rs := [17]) (by kernel_rfl) (by simp) ?_
  refine AllReadyH.cons (o := { dst := some 70, op := Op.call { callee := Callee.value (Operand.func 24), args := #[Operand.tmp 67, Operand.tmp 69], argTypes := #[23, 23] }, type := 4, pos := "law.go:67", after := #[{ on := 14, ground := Ground.data }, { on := 16, ground := Ground.data }, { on := 12, ground := Ground.chain }, { on := 12, ground := Ground.guard }], guard := some (12, true) }) (by kernel_rfl) (fun K hK => ?_) AllReadyH.nil
  rw [if_pos (by kernel_rfl)]
  go_simp
  go_wp2_with fail
  refine (C17.out _ hHeld).mono ?_
  rintro e W17 ⟨rfl, hb⟩
  have hM := hHeld.on hb
  refine hK.out _ _ hM (fun _ => ?_)
  clear hK K hHeld hb
  have hHeld := hM
  clear hM
  try simp only [Act.put, List.setIfInBounds_toArray, List.set_cons_zero, List.set_cons_succ]
  refine wpAnyH_take (i := 18) (v := ?_) (oi := { dst := some 71, op := Op.pick (Operand.tmp 65) (Operand.tmp 70) (Operand.const (Value.bool false)), type := 4, pos := "law.go:67", after := #[{ on := 12, ground := Ground.data }, { on := 17, ground := Ground.data }], guard := none }) (by kernel_rfl) (by kernel_rfl) (by kernel_rfl) (by kernel_rfl) (fun _ _ _ h => h) (Or.inl ⟨by kernel_rfl, ?hy18⟩) (by assumption) ?_
  case hy18 => (intro w hSw; (try dsimp only at hSw); obtain ⟨xa, xb, xc, xd, xe, xf, xg, xh, xi, xj⟩ := hSw.bx.all; obtain ⟨ra, rb, rc, rd, re, rf, rg, rh, ri, rj⟩ := hSw.br.all; go_simp; try with_reducible rfl)
  try simp only [Act.put, List.setIfInBounds_toArray, List.set_cons_zero, List.set_cons_succ]
  refine wpAnyH_take (i := 19) (v := ?_) (oi := { dst := some 72, op := Op.move (Operand.tmp 71), type := 4, pos := "law.go:67", after := #[{ on := 18, ground := Ground.data }, { on := 17, ground := Ground.chain }], guard := none }) (by kernel_rfl) (by kernel_rfl) (by kernel_rfl) (by kernel_rfl) (fun _ _ _ h => h) (Or.inl ⟨by kernel_rfl, ?hy19⟩) (by assumption) ?_
  case hy19 => (intro w hSw; (try dsimp only at hSw); obtain ⟨xa, xb, xc, xd, xe, xf, xg, xh, xi, xj⟩ := hSw.bx.all; obtain ⟨ra, rb, rc, rd, re, rf, rg, rh, ri, rj⟩ := hSw.br.all; go_simp; try with_reducible rfl)
  try simp only [Act.put, List.setIfInBounds_toArray, List.set_cons_zero, List.set_cons_succ]
  refine wpAnyH_take (i := 20) (v := ?_) (oi := { dst := some 73, op := Op.fieldAddr 26 (Operand.tmp 3) 5, type := 0, pos := "law.go:67", after := #[{ on := 19, ground := Ground.guard }], guard := some (19, true) }) (by kernel_rfl) (by kernel_rfl) (by kernel_rfl) (by kernel_rfl) (fun _ _ _ h => h) (Or.inl ⟨by kernel_rfl, ?hy20⟩) (by assumption) ?_
  case hy20 => (intro w hSw; (try dsimp only at hSw); obtain ⟨xa, xb, xc, xd, xe, xf, xg, xh, xi, xj⟩ := hSw.bx.all; obtain ⟨ra, rb, rc, rd, re, rf, rg, rh, ri, rj⟩ := hSw.br.all; go_simp; try with_reducible rfl)
  try simp only [Act.put, List.setIfInBounds_toArray, List.set_cons_zero, List.set_cons_succ]
  refine wpAnyH_take (i := 21) (v := ?_) (oi := { dst := some 74, op := Op.load 4 (Operand.tmp 73), type := 4, pos := "law.go:67", after := #[{ on := 20, ground := Ground.data }, { on := 19, ground := Ground.guard }], guard := some (19, true) }) (by kernel_rfl) (by kernel_rfl) (by kernel_rfl) (by kernel_rfl) (fun _ _ _ h => h) (Or.inl ⟨by kernel_rfl, ?hy21⟩) (by assumption) ?_
  case hy21 => (intro w hSw; (try dsimp only at hSw); obtain ⟨xa, xb, xc, xd, xe, xf, xg, xh, xi, xj⟩ := hSw.bx.all; obtain ⟨ra, rb, rc, rd, re, rf, rg, rh, ri, rj⟩ := hSw.br.all; go_simp; try with_reducible rfl)
  try simp only [Act.put, List.setIfInBounds_toArray, List.set_cons_zero, List.set_cons_succ]
  refine wpAnyH_take (i := 22) (v := ?_) (oi := { dst := some 75, op := Op.fieldAddr 26 (Operand.tmp 1) 5, type := 0, pos := "law.go:67", after := #[{ on := 19, ground := Ground.guard }], guard := some (19, true) }) (by kernel_rfl) (by kernel_rfl) (by kernel_rfl) (by kernel_rfl) (fun _ _ _ h => h) (Or.inl ⟨by kernel_rfl, ?hy22⟩) (by assumption) ?_
  case hy22 => (intro w hSw; (try dsimp only at hSw); obtain ⟨xa, xb, xc, xd, xe, xf, xg, xh, xi, xj⟩ := hSw.bx.all; obtain ⟨ra, rb, rc, rd, re, rf, rg, rh, ri, rj⟩ := hSw.br.all; go_simp; try with_reducible rfl)
  try simp only [Act.put, List.setIfInBounds_toArray, List.set_cons_zero, List.set_cons_succ]
  refine wpAnyH_take (i := 23) (v := ?_) (oi := { dst := some 76, op := Op.load 4 (Operand.tmp 75), type := 4, pos := "law.go:67", after := #[{ on := 22, ground := Ground.data }, { on := 19, ground := Ground.guard }], guard := some (19, true) }) (by kernel_rfl) (by kernel_rfl) (by kernel_rfl) (by kernel_rfl) (fun _ _ _ h => h) (Or.inl ⟨by kernel_rfl, ?hy23⟩) (by assumption) ?_
  case hy23 => (intro w hSw; (try dsimp only at hSw); obtain ⟨xa, xb, xc, xd, xe, xf, xg, xh, xi, xj⟩ := hSw.bx.all; obtain ⟨ra, rb, rc, rd, re, rf, rg, rh, ri, rj⟩ := hSw.br.all; go_simp; try with_reducible rfl)
  try simp only [Act.put, List.setIfInBounds_toArray, List.set_cons_zero, List.set_cons_succ]
  refine wpAnyH_take (i := 24) (v := ?_) (oi := { dst := some 77, op := Op.binOp BinOp.eql 4 (Operand.tmp 74) (Operand.tmp 76) 4, type := 4, pos := "law.go:67", after := #[{ on := 21, ground := Ground.data }, { on := 23, ground := Ground.data }, { on := 19, ground := Ground.guard }], guard := some (19, true) }) (by kernel_rfl) (by kernel_rfl) (by kernel_rfl) (by kernel_rfl) (fun _ _ _ h => h) (Or.inl ⟨by kernel_rfl, ?hy24⟩) (by assumption) ?_
  case hy24 => (intro w hSw; (try dsimp only at hSw); obtain ⟨xa, xb, xc, xd, xe, xf, xg, xh, xi, xj⟩ := hSw.bx.all; obtain ⟨ra, rb, rc, rd, re, rf, rg, rh, ri, rj⟩ := hSw.br.all; go_simp; try with_reducible rfl)
  try simp only [Act.put, List.setIfInBounds_toArray, List.set_cons_zero, List.set_cons_succ]
  refine wpAnyH_take (i := 25) (v := ?_) (oi := { dst := some 78, op := Op.pick (Operand.tmp 72) (Operand.tmp 77) (Operand.const (Value.bool false)), type := 4, pos := "law.go:67", after := #[{ on := 19, ground := Ground.data }, { on := 24, ground := Ground.data }], guard := none }) (by kernel_rfl) (by kernel_rfl) (by kernel_rfl) (by kernel_rfl) (fun _ _ _ h => h) (Or.inl ⟨by kernel_rfl, ?hy25⟩) (by assumption) ?_
  case hy25 => (intro w hSw; (try dsimp only at hSw); obtain ⟨xa, xb, xc, xd, xe, xf, xg, xh, xi, xj⟩ := hSw.bx.all; obtain ⟨ra, rb, rc, rd, re, rf, rg, rh, ri, rj⟩ := hSw.br.all; go_simp; try with_reducible rfl)
  try simp only [Act.put, List.setIfInBounds_toArray, List.set_cons_zero, List.set_cons_succ]
  refine wpAnyH_take (i := 26) (v := ?_) (oi := { dst := some 79, op := Op.move (Operand.tmp 78), type := 4, pos := "law.go:67", after := #[{ on := 25, ground := Ground.data }, { on := 19, ground := Ground.chain }], guard := none }) (by kernel_rfl) (by kernel_rfl) (by kernel_rfl) (by kernel_rfl) (fun _ _ _ h => h) (Or.inl ⟨by kernel_rfl, ?hy26⟩) (by assumption) ?_
  case hy26 => (intro w hSw; (try dsimp only at hSw); obtain ⟨xa, xb, xc, xd, xe, xf, xg, xh, xi, xj⟩ := hSw.bx.all; obtain ⟨ra, rb, rc, rd, re, rf, rg, rh, ri, rj⟩ := hSw.br.all; go_simp; try with_reducible rfl)
  try simp only [Act.put, List.setIfInBounds_toArray, List.set_cons_zero, List.set_cons_succ]
  refine wpAnyH_take (i := 27) (v := ?_) (oi := { dst := some 80, op := Op.fieldAddr 26 (Operand.tmp 3) 2, type := 0, pos := "law.go:67", after := #[{ on := 26, ground := Ground.guard }], guard := some (26, true) }) (by kernel_rfl) (by kernel_rfl) (by kernel_rfl) (by kernel_rfl) (fun _ _ _ h => h) (Or.inl ⟨by kernel_rfl, ?hy27⟩) (by assumption) ?_
  case hy27 => (intro w hSw; (try dsimp only at hSw); obtain ⟨xa, xb, xc, xd, xe, xf, xg, xh, xi, xj⟩ := hSw.bx.all; obtain ⟨ra, rb, rc, rd, re, rf, rg, rh, ri, rj⟩ := hSw.br.all; go_simp; try with_reducible rfl)
  try simp only [Act.put, List.setIfInBounds_toArray, List.set_cons_zero, List.set_cons_succ]
  refine wpAnyH_take (i := 28) (v := ?_) (oi := { dst := some 81, op := Op.load 22 (Operand.tmp 80), type := 22, pos := "law.go:67", after := #[{ on := 27, ground := Ground.data }, { on := 26, ground := Ground.guard }], guard := some (26, true) }) (by kernel_rfl) (by kernel_rfl) (by kernel_rfl) (by kernel_rfl) (fun _ _ _ h => h) (Or.inl ⟨by kernel_rfl, ?hy28⟩) (by assumption) ?_
  case hy28 => (intro w hSw; (try dsimp only at hSw); obtain ⟨xa, xb, xc, xd, xe, xf, xg, xh, xi, xj⟩ := hSw.bx.all; obtain ⟨ra, rb, rc, rd, re, rf, rg, rh, ri, rj⟩ := hSw.br.all; go_simp; try with_reducible rfl)
  try simp only [Act.put, List.setIfInBounds_toArray, List.set_cons_zero, List.set_cons_succ]
  refine wpAnyH_take (i := 29) (v := ?_) (oi := { dst := some 82, op := Op.call { callee := Callee.builtin Builtin.len, args := #[Operand.tmp 81], argTypes := #[22] }, type := 3, pos := "law.go:67", after := #[{ on := 28, ground := Ground.data }, { on := 26, ground := Ground.guard }], guard := some (26, true) }) (by kernel_rfl) (by kernel_rfl) (by kernel_rfl) (by kernel_rfl) (fun _ _ _ h => h) (Or.inl ⟨by kernel_rfl, ?hy29⟩) (by assumption) ?_
  case hy29 => (intro w hSw; (try dsimp only at hSw); obtain ⟨xa, xb, xc, xd, xe, xf, xg, xh, xi, xj⟩ := hSw.bx.all; obtain ⟨ra, rb, rc, rd, re, rf, rg, rh, ri, rj⟩ := hSw.br.all; go_simp; try with_reducible rfl)
  try simp only [Act.put, List.setIfInBounds_toArray, List.set_cons_zero, List.set_cons_succ]
  refine wpAnyH_take (i := 30) (v := ?_) (oi := { dst := some 83, op := Op.binOp BinOp.eql 3 (Operand.tmp 82) (Operand.const (Value.int IntKind.i64 0)) 3, type := 4, pos := "law.go:67", after := #[{ on := 29, ground := Ground.data }, { on := 26, ground := Ground.guard }], guard := some (26, true) }) (by kernel_rfl) (by kernel_rfl) (by kernel_rfl) (by kernel_rfl) (fun _ _ _ h => h) (Or.inl ⟨by kernel_rfl, ?hy30⟩) (by assumption) ?_
  case hy30 => (intro w hSw; (try dsimp only at hSw); obtain ⟨xa, xb, xc, xd, xe, xf, xg, xh, xi, xj⟩ := hSw.bx.all; obtain ⟨ra, rb, rc, rd, re, rf, rg, rh, ri, rj⟩ := hSw.br.all; go_simp; try with_reducible rfl)
  try simp only [Act.put, List.setIfInBounds_toArray, List.set_cons_zero, List.set_cons_succ]
  refine wpAnyH_take (i := 31) (v := ?_) (oi := { dst := some 84, op := Op.pick (Operand.tmp 79) (Operand.tmp 83) (Operand.const (Value.bool false)), type := 4, pos := "law.go:67", after := #[{ on := 26, ground := Ground.data }, { on := 30, ground := Ground.data }], guard := none }) (by kernel_rfl) (by kernel_rfl) (by kernel_rfl) (by kernel_rfl) (fun _ _ _ h => h) (Or.inl ⟨by kernel_rfl, ?hy31⟩) (by assumption) ?_
  case hy31 => (intro w hSw; (try dsimp only at hSw); obtain ⟨xa, xb, xc, xd, xe, xf, xg, xh, xi, xj⟩ := hSw.bx.all; obtain ⟨ra, rb, rc, rd, re, rf, rg, rh, ri, rj⟩ := hSw.br.all; go_simp; try with_reducible rfl)
  try simp only [Act.put, List.setIfInBounds_toArray, List.set_cons_zero, List.set_cons_succ]
  refine wpAnyH_take (i := 32) (v := ?_) (oi := { dst := some 85, op := Op.move (Operand.tmp 84), type := 4, pos := "law.go:67", after := #[{ on := 31, ground := Ground.data }, { on := 26, ground := Ground.chain }], guard := none }) (by kernel_rfl) (by kernel_rfl) (by kernel_rfl) (by kernel_rfl) (fun _ _ _ h => h) (Or.inl ⟨by kernel_rfl, ?hy32⟩) (by assumption) ?_
  case hy32 => (intro w hSw; (try dsimp only at hSw); obtain ⟨xa, xb, xc, xd, xe, xf, xg, xh, xi, xj⟩ := hSw.bx.all; obtain ⟨ra, rb, rc, rd, re, rf, rg, rh, ri, rj⟩ := hSw.br.all; go_simp; try with_reducible rfl)
  try simp only [Act.put, List.setIfInBounds_toArray, List.set_cons_zero, List.set_cons_succ]
  refine wpAnyH_take (i := 33) (v := ?_) (oi := { dst := some 86, op := Op.fieldAddr 26 (Operand.tmp 3) 0, type := 0, pos := "law.go:67", after := #[{ on := 32, ground := Ground.guard }], guard := some (32, true) }) (by kernel_rfl) (by kernel_rfl) (by kernel_rfl) (by kernel_rfl) (fun _ _ _ h => h) (Or.inl ⟨by kernel_rfl, ?hy33⟩) (by assumption) ?_
  case hy33 => (intro w hSw; (try dsimp only at hSw); obtain ⟨xa, xb, xc, xd, xe, xf, xg, xh, xi, xj⟩ := hSw.bx.all; obtain ⟨ra, rb, rc, rd, re, rf, rg, rh, ri, rj⟩ := hSw.br.all; go_simp; try with_reducible rfl)
  try simp only [Act.put, List.setIfInBounds_toArray, List.set_cons_zero, List.set_cons_succ]
  refine wpAnyH_take (i := 34) (v := ?_) (oi := { dst := some 87, op := Op.load 4 (Operand.tmp 86), type := 4, pos := "law.go:67", after := #[{ on := 33, ground := Ground.data }, { on := 32, ground := Ground.guard }], guard := some (32, true) }) (by kernel_rfl) (by kernel_rfl) (by kernel_rfl) (by kernel_rfl) (fun _ _ _ h => h) (Or.inl ⟨by kernel_rfl, ?hy34⟩) (by assumption) ?_
  case hy34 => (intro w hSw; (try dsimp only at hSw); obtain ⟨xa, xb, xc, xd, xe, xf, xg, xh, xi, xj⟩ := hSw.bx.all; obtain ⟨ra, rb, rc, rd, re, rf, rg, rh, ri, rj⟩ := hSw.br.all; go_simp; try with_reducible rfl)
  try simp only [Act.put, List.setIfInBounds_toArray, List.set_cons_zero, List.set_cons_succ]
  refine wpAnyH_take (i := 35) (v := ?_) (oi := { dst := some 88, op := Op.unOp UnOp.not 4 (Operand.tmp 87), type := 4, pos := "law.go:67", after := #[{ on := 34, ground := Ground.data }, { on := 32, ground := Ground.guard }], guard := some (32, true) }) (by kernel_rfl) (by kernel_rfl) (by kernel_rfl) (by kernel_rfl) (fun _ _ _ h => h) (Or.inl ⟨by kernel_rfl, ?hy35⟩) (by assumption) ?_
  case hy35 => (intro w hSw; (try dsimp only at hSw); obtain ⟨xa, xb, xc, xd, xe, xf, xg, xh, xi, xj⟩ := hSw.bx.all; obtain ⟨ra, rb, rc, rd, re, rf, rg, rh, ri, rj⟩ := hSw.br.all; obtain ⟨hat, hinp, hord⟩ := HAT.out; go_simp; try with_reducible rfl)
  try simp only [Act.put, List.setIfInBounds_toArray, List.set_cons_zero, List.set_cons_succ]
  refine wpAnyH_take (i := 36) (v := ?_) (oi := { dst := some 89, op := Op.pick (Operand.tmp 85) (Operand.tmp 88) (Operand.const (Value.bool false)), type := 4, pos := "law.go:67", after := #[{ on := 32, ground := Ground.data }, { on := 35, ground := Ground.data }], guard := none }) (by kernel_rfl) (by kernel_rfl) (by kernel_rfl) (by kernel_rfl) (fun _ _ _ h => h) (Or.inl ⟨by kernel_rfl, ?hy36⟩) (by assumption) ?_
  case hy36 => (intro w hSw; (try dsimp only at hSw); obtain ⟨xa, xb, xc, xd, xe, xf, xg, xh, xi, xj⟩ := hSw.bx.all; obtain ⟨ra, rb, rc, rd, re, rf, rg, rh, ri, rj⟩ := hSw.br.all; go_simp; try with_reducible rfl)
  try simp only [Act.put, List.setIfInBounds_toArray, List.set_cons_zero, List.set_cons_succ]
  refine wpAnyH_take (i := 37) (v := ?_) (oi := { dst := some 90, op := Op.move (Operand.tmp 89), type := 4, pos := "law.go:67", after := #[{ on := 36, ground := Ground.data }, { on := 32, ground := Ground.chain }], guard := none }) (by kernel_rfl) (by kernel_rfl) (by kernel_rfl) (by kernel_rfl) (fun _ _ _ h => h) (Or.inl ⟨by kernel_rfl, ?hy37⟩) (by assumption) ?_
  case hy37 => (intro w hSw; (try dsimp only at hSw); obtain ⟨xa, xb, xc, xd, xe, xf, xg, xh, xi, xj⟩ := hSw.bx.all; obtain ⟨ra, rb, rc, rd, re, rf, rg, rh, ri, rj⟩ := hSw.br.all; go_simp; try with_reducible rfl)
  try simp only [Act.put, List.setIfInBounds_toArray, List.set_cons_zero, List.set_cons_succ]
  refine wpAnyH_take (i := 38) (v := ?_) (oi := { dst := some 91, op := Op.fieldAddr 26 (Operand.tmp 3) 4, type := 0, pos := "law.go:67", after := #[{ on := 37, ground := Ground.guard }], guard := some (37, true) }) (by kernel_rfl) (by kernel_rfl) (by kernel_rfl) (by kernel_rfl) (fun _ _ _ h => h) (Or.inl ⟨by kernel_rfl, ?hy38⟩) (by assumption) ?_
  case hy38 => (intro w hSw; (try dsimp only at hSw); obtain ⟨xa, xb, xc, xd, xe, xf, xg, xh, xi, xj⟩ := hSw.bx.all; obtain ⟨ra, rb, rc, rd, re, rf, rg, rh, ri, rj⟩ := hSw.br.all; go_simp; try with_reducible rfl)
  try simp only [Act.put, List.setIfInBounds_toArray, List.set_cons_zero, List.set_cons_succ]
  refine wpAnyH_take (i := 39) (v := ?_) (oi := { dst := some 92, op := Op.load 4 (Operand.tmp 91), type := 4, pos := "law.go:67", after := #[{ on := 38, ground := Ground.data }, { on := 37, ground := Ground.guard }], guard := some (37, true) }) (by kernel_rfl) (by kernel_rfl) (by kernel_rfl) (by kernel_rfl) (fun _ _ _ h => h) (Or.inl ⟨by kernel_rfl, ?hy39⟩) (by assumption) ?_
  case hy39 => (intro w hSw; (try dsimp only at hSw); obtain ⟨xa, xb, xc, xd, xe, xf, xg, xh, xi, xj⟩ := hSw.bx.all; obtain ⟨ra, rb, rc, rd, re, rf, rg, rh, ri, rj⟩ := hSw.br.all; go_simp; try with_reducible rfl)
  try simp only [Act.put, List.setIfInBounds_toArray, List.set_cons_zero, List.set_cons_succ]
  refine wpAnyH_take (i := 40) (v := ?_) (oi := { dst := some 93, op := Op.unOp UnOp.not 4 (Operand.tmp 92), type := 4, pos := "law.go:67", after := #[{ on := 39, ground := Ground.data }, { on := 37, ground := Ground.guard }], guard := some (37, true) }) (by kernel_rfl) (by kernel_rfl) (by kernel_rfl) (by kernel_rfl) (fun _ _ _ h => h) (Or.inl ⟨by kernel_rfl, ?hy40⟩) (by assumption) ?_
  case hy40 => (intro w hSw; (try dsimp only at hSw); obtain ⟨xa, xb, xc, xd, xe, xf, xg, xh, xi, xj⟩ := hSw.bx.all; obtain ⟨ra, rb, rc, rd, re, rf, rg, rh, ri, rj⟩ := hSw.br.all; obtain ⟨hat, hinp, hord⟩ := HAT.out; go_simp; try with_reducible rfl)
  try simp only [Act.put, List.setIfInBounds_toArray, List.set_cons_zero, List.set_cons_succ]
  refine wpAnyH_take (i := 41) (v := ?_) (oi := { dst := some 94, op := Op.pick (Operand.tmp 90) (Operand.tmp 93) (Operand.const (Value.bool false)), type := 4, pos := "law.go:67", after := #[{ on := 37, ground := Ground.data }, { on := 40, ground := Ground.data }], guard := none }) (by kernel_rfl) (by kernel_rfl) (by kernel_rfl) (by kernel_rfl) (fun _ _ _ h => h) (Or.inl ⟨by kernel_rfl, ?hy41⟩) (by assumption) ?_
  case hy41 => (intro w hSw; (try dsimp only at hSw); obtain ⟨xa, xb, xc, xd, xe, xf, xg, xh, xi, xj⟩ := hSw.bx.all; obtain ⟨ra, rb, rc, rd, re, rf, rg, rh, ri, rj⟩ := hSw.br.all; go_simp; try with_reducible rfl)
  try simp only [Act.put, List.setIfInBounds_toArray, List.set_cons_zero, List.set_cons_succ]
  refine wpAnyH_take (i := 42) (v := ?_) (oi := { dst := some 95, op := Op.move (Operand.tmp 94), type := 4, pos := "law.go:67", after := #[{ on := 41, ground := Ground.data }, { on := 37, ground := Ground.chain }], guard := none }) (by kernel_rfl) (by kernel_rfl) (by kernel_rfl) (by kernel_rfl) (fun _ _ _ h => h) (Or.inl ⟨by kernel_rfl, ?hy42⟩) (by assumption) ?_
  case hy42 => (intro w hSw; (try dsimp only at hSw); obtain ⟨xa, xb, xc, xd, xe, xf, xg, xh, xi, xj⟩ := hSw.bx.all; obtain ⟨ra, rb, rc, rd, re, rf, rg, rh, ri, rj⟩ := hSw.br.all; go_simp; try with_reducible rfl)
  try simp only [Act.put, List.setIfInBounds_toArray, List.set_cons_zero, List.set_cons_succ]
  refine wpAnyH_take (i := 43) (v := ?_) (oi := { dst := some 96, op := Op.fieldAddr 26 (Operand.tmp 3) 7, type := 0, pos := "law.go:67", after := #[{ on := 42, ground := Ground.guard }], guard := some (42, true) }) (by kernel_rfl) (by kernel_rfl) (by kernel_rfl) (by kernel_rfl) (fun _ _ _ h => h) (Or.inl ⟨by kernel_rfl, ?hy43⟩) (by assumption) ?_
  case hy43 => (intro w hSw; (try dsimp only at hSw); obtain ⟨xa, xb, xc, xd, xe, xf, xg, xh, xi, xj⟩ := hSw.bx.all; obtain ⟨ra, rb, rc, rd, re, rf, rg, rh, ri, rj⟩ := hSw.br.all; go_simp; try with_reducible rfl)
  try simp only [Act.put, List.setIfInBounds_toArray, List.set_cons_zero, List.set_cons_succ]
  refine wpAnyH_take (i := 44) (v := ?_) (oi := { dst := some 97, op := Op.load 4 (Operand.tmp 96), type := 4, pos := "law.go:67", after := #[{ on := 43, ground := Ground.data }, { on := 42, ground := Ground.guard }], guard := some (42, true) }) (by kernel_rfl) (by kernel_rfl) (by kernel_rfl) (by kernel_rfl) (fun _ _ _ h => h) (Or.inl ⟨by kernel_rfl, ?hy44⟩) (by assumption) ?_
  case hy44 => (intro w hSw; (try dsimp only at hSw); obtain ⟨xa, xb, xc, xd, xe, xf, xg, xh, xi, xj⟩ := hSw.bx.all; obtain ⟨ra, rb, rc, rd, re, rf, rg, rh, ri, rj⟩ := hSw.br.all; go_simp; try with_reducible rfl)
  try simp only [Act.put, List.setIfInBounds_toArray, List.set_cons_zero, List.set_cons_succ]
  refine wpAnyH_take (i := 45) (v := ?_) (oi := { dst := some 98, op := Op.unOp UnOp.not 4 (Operand.tmp 97), type := 4, pos := "law.go:67", after := #[{ on := 44, ground := Ground.data }, { on := 42, ground := Ground.guard }], guard := some (42, true) }) (by kernel_rfl) (by kernel_rfl) (by kernel_rfl) (by kernel_rfl) (fun _ _ _ h => h) (Or.inl ⟨by kernel_rfl, ?hy45⟩) (by assumption) ?_
  case hy45 => (intro w hSw; (try dsimp only at hSw); obtain ⟨xa, xb, xc, xd, xe, xf, xg, xh, xi, xj⟩ := hSw.bx.all; obtain ⟨ra, rb, rc, rd, re, rf, rg, rh, ri, rj⟩ := hSw.br.all; obtain ⟨hat, hinp, hord⟩ := HAT.out; go_simp; try with_reducible rfl)
  try simp only [Act.put, List.setIfInBounds_toArray, List.set_cons_zero, List.set_cons_succ]
  refine wpAnyH_take (i := 46) (v := ?_) (oi := { dst := some 99, op := Op.pick (Operand.tmp 95) (Operand.tmp 98) (Operand.const (Value.bool false)), type := 4, pos := "law.go:67", after := #[{ on := 42, ground := Ground.data }, { on := 45, ground := Ground.data }], guard := none }) (by kernel_rfl) (by kernel_rfl) (by kernel_rfl) (by kernel_rfl) (fun _ _ _ h => h) (Or.inl ⟨by kernel_rfl, ?hy46⟩) (by assumption) ?_
  case hy46 => (intro w hSw; (try dsimp only at hSw); obtain ⟨xa, xb, xc, xd, xe, xf, xg, xh, xi, xj⟩ := hSw.bx.all; obtain ⟨ra, rb, rc, rd, re, rf, rg, rh, ri, rj⟩ := hSw.br.all; go_simp; try with_reducible rfl)
  try simp only [Act.put, List.setIfInBounds_toArray, List.set_cons_zero, List.set_cons_succ]
  refine wpAnyH_take (i := 47) (v := ?_) (oi := { dst := some 100, op := Op.move (Operand.tmp 99), type := 4, pos := "law.go:67", after := #[{ on := 46, ground := Ground.data }, { on := 42, ground := Ground.chain }], guard := none }) (by kernel_rfl) (by kernel_rfl) (by kernel_rfl) (by kernel_rfl) (fun _ _ _ h => h) (Or.inl ⟨by kernel_rfl, ?hy47⟩) (by assumption) ?_
  case hy47 => (intro w hSw; (try dsimp only at hSw); obtain ⟨xa, xb, xc, xd, xe, xf, xg, xh, xi, xj⟩ := hSw.bx.all; obtain ⟨ra, rb, rc, rd, re, rf, rg, rh, ri, rj⟩ := hSw.br.all; go_simp; try with_reducible rfl)
  try simp only [Act.put, List.setIfInBounds_toArray, List.set_cons_zero, List.set_cons_succ]
  refine wpAnyH_take (i := 48) (v := ?_) (oi := { dst := some 101, op := Op.fieldAddr 26 (Operand.tmp 3) 9, type := 0, pos := "law.go:67", after := #[{ on := 47, ground := Ground.guard }], guard := some (47, true) }) (by kernel_rfl) (by kernel_rfl) (by kernel_rfl) (by kernel_rfl) (fun _ _ _ h => h) (Or.inl ⟨by kernel_rfl, ?hy48⟩) (by assumption) ?_
  case hy48 => (intro w hSw; (try dsimp only at hSw); obtain ⟨xa, xb, xc, xd, xe, xf, xg, xh, xi, xj⟩ := hSw.bx.all; obtain ⟨ra, rb, rc, rd, re, rf, rg, rh, ri, rj⟩ := hSw.br.all; go_simp; try with_reducible rfl)
  try simp only [Act.put, List.setIfInBounds_toArray, List.set_cons_zero, List.set_cons_succ]
  refine wpAnyH_take (i := 49) (v := ?_) (oi := { dst := some 102, op := Op.load 24 (Operand.tmp 101), type := 24, pos := "law.go:67", after := #[{ on := 48, ground := Ground.data }, { on := 47, ground := Ground.guard }], guard := some (47, true) }) (by kernel_rfl) (by kernel_rfl) (by kernel_rfl) (by kernel_rfl) (fun _ _ _ h => h) (Or.inl ⟨by kernel_rfl, ?hy49⟩) (by assumption) ?_
  case hy49 => (intro w hSw; (try dsimp only at hSw); obtain ⟨xa, xb, xc, xd, xe, xf, xg, xh, xi, xj⟩ := hSw.bx.all; obtain ⟨ra, rb, rc, rd, re, rf, rg, rh, ri, rj⟩ := hSw.br.all; go_simp; try with_reducible rfl)
  try simp only [Act.put, List.setIfInBounds_toArray, List.set_cons_zero, List.set_cons_succ]
  refine wpAnyH_take (i := 50) (v := ?_) (oi := { dst := some 103, op := Op.fieldAddr 26 (Operand.tmp 1) 9, type := 0, pos := "law.go:67", after := #[{ on := 47, ground := Ground.guard }], guard := some (47, true) }) (by kernel_rfl) (by kernel_rfl) (by kernel_rfl) (by kernel_rfl) (fun _ _ _ h => h) (Or.inl ⟨by kernel_rfl, ?hy50⟩) (by assumption) ?_
  case hy50 => (intro w hSw; (try dsimp only at hSw); obtain ⟨xa, xb, xc, xd, xe, xf, xg, xh, xi, xj⟩ := hSw.bx.all; obtain ⟨ra, rb, rc, rd, re, rf, rg, rh, ri, rj⟩ := hSw.br.all; go_simp; try with_reducible rfl)
  try simp only [Act.put, List.setIfInBounds_toArray, List.set_cons_zero, List.set_cons_succ]
  refine wpAnyH_take (i := 51) (v := ?_) (oi := { dst := some 104, op := Op.load 24 (Operand.tmp 103), type := 24, pos := "law.go:67", after := #[{ on := 50, ground := Ground.data }, { on := 47, ground := Ground.guard }], guard := some (47, true) }) (by kernel_rfl) (by kernel_rfl) (by kernel_rfl) (by kernel_rfl) (fun _ _ _ h => h) (Or.inl ⟨by kernel_rfl, ?hy51⟩) (by assumption) ?_
  case hy51 => (intro w hSw; (try dsimp only at hSw); obtain ⟨xa, xb, xc, xd, xe, xf, xg, xh, xi, xj⟩ := hSw.bx.all; obtain ⟨ra, rb, rc, rd, re, rf, rg, rh, ri, rj⟩ := hSw.br.all; go_simp; try with_reducible rfl)
  try simp only [Act.put, List.setIfInBounds_toArray, List.set_cons_zero, List.set_cons_succ]
  refine wpAnyH_ready (rs := [52]) (by kernel_rfl) (by simp) ?_
  refine AllReadyH.cons (o := { dst := some 105, op := Op.call { callee := Callee.value (Operand.func 20), args := #[Operand.tmp 102, Operand.tmp 104], argTypes := #[24, 24] }, type := 4, pos := "law.go:67", after := #[{ on := 49, ground := Ground.data }, { on := 51, ground := Ground.data }, { on := 47, ground := Ground.chain }, { on := 47, ground := Ground.guard }], guard := some (47, true) }) (by kernel_rfl) (fun K hK => ?_) AllReadyH.nil
  rw [if_pos (by kernel_rfl)]
  go_simp
  go_wp2_with fail
  refine (C52.out _ hHeld).mono ?_
  rintro e W52 ⟨rfl, hb⟩
  have hM := hHeld.on hb
  refine hK.out _ _ hM (fun _ => ?_)
  clear hK K hHeld hb
  have hHeld := hM
  clear hM
  try simp only [Act.put, List.setIfInBounds_toArray, List.set_cons_zero, List.set_cons_succ]
  refine wpAnyH_take (i := 53) (v := ?_) (oi := { dst := some 106, op := Op.pick (Operand.tmp 100) (Operand.tmp 105) (Operand.const (Value.bool false)), type := 4, pos := "law.go:67", after := #[{ on := 47, ground := Ground.data }, { on := 52, ground := Ground.data }], guard := none }) (by kernel_rfl) (by kernel_rfl) (by kernel_rfl) (by kernel_rfl) (fun _ _ _ h => h) (Or.inl ⟨by kernel_rfl, ?hy53⟩) (by assumption) ?_
  case hy53 => (intro w hSw; (try dsimp only at hSw); obtain ⟨xa, xb, xc, xd, xe, xf, xg, xh, xi, xj⟩ := hSw.bx.all; obtain ⟨ra, rb, rc, rd, re, rf, rg, rh, ri, rj⟩ := hSw.br.all; go_simp; try with_reducible rfl)
  try simp only [Act.put, List.setIfInBounds_toArray, List.set_cons_zero, List.set_cons_succ]
  refine wpAnyH_take (i := 54) (v := ?_) (oi := { dst := some 107, op := Op.move (Operand.tmp 106), type := 4, pos := "law.go:67", after := #[{ on := 53, ground := Ground.data }, { on := 52, ground := Ground.chain }], guard := none }) (by kernel_rfl) (by kernel_rfl) (by kernel_rfl) (by kernel_rfl) (fun _ _ _ h => h) (Or.inl ⟨by kernel_rfl, ?hy54⟩) (by assumption) ?_
  case hy54 => (intro w hSw; (try dsimp only at hSw); obtain ⟨xa, xb, xc, xd, xe, xf, xg, xh, xi, xj⟩ := hSw.bx.all; obtain ⟨ra, rb, rc, rd, re, rf, rg, rh, ri, rj⟩ := hSw.br.all; go_simp; try with_reducible rfl)
  try simp only [Act.put, List.setIfInBounds_toArray, List.set_cons_zero, List.set_cons_succ]
  refine wpAnyH_take (i := 55) (v := ?_) (oi := { dst := some 108, op := Op.load 26 (Operand.tmp 3), type := 26, pos := "law.go:67", after := #[{ on := 54, ground := Ground.guard }], guard := some (54, true) }) (by kernel_rfl) (by kernel_rfl) (by kernel_rfl) (by kernel_rfl) (fun _ _ _ h => h) (Or.inl ⟨by kernel_rfl, ?hy55⟩) (by assumption) ?_
  case hy55 => (intro w hSw; (try dsimp only at hSw); obtain ⟨xa, xb, xc, xd, xe, xf, xg, xh, xi, xj⟩ := hSw.bx.all; obtain ⟨ra, rb, rc, rd, re, rf, rg, rh, ri, rj⟩ := hSw.br.all; go_simp; try with_reducible rfl)
  try simp only [Act.put, List.setIfInBounds_toArray, List.set_cons_zero, List.set_cons_succ]
  refine wpAnyH_take (i := 56) (v := ?_) (oi := { dst := some 109, op := Op.build 26 #[], type := 26, pos := "law.go:67", after := #[{ on := 54, ground := Ground.guard }], guard := some (54, true) }) (by kernel_rfl) (by kernel_rfl) (by kernel_rfl) (by kernel_rfl) (fun _ _ _ h => h) (Or.inl ⟨by kernel_rfl, ?hy56⟩) (by assumption) ?_
  case hy56 => (intro w hSw; (try dsimp only at hSw); obtain ⟨xa, xb, xc, xd, xe, xf, xg, xh, xi, xj⟩ := hSw.bx.all; obtain ⟨ra, rb, rc, rd, re, rf, rg, rh, ri, rj⟩ := hSw.br.all; go_simp; try with_reducible rfl)
  try simp only [Act.put, List.setIfInBounds_toArray, List.set_cons_zero, List.set_cons_succ]
  refine wpAnyH_take (i := 58) (v := ?_) (oi := { dst := some 111, op := Op.load 26 (Operand.tmp 3), type := 26, pos := "law.go:67", after := #[{ on := 54, ground := Ground.guard }], guard := some (54, true) }) (by kernel_rfl) (by kernel_rfl) (by kernel_rfl) (by kernel_rfl) (fun _ _ _ h => h) (Or.inl ⟨by kernel_rfl, ?hy58⟩) (by assumption) ?_
  case hy58 => (intro w hSw; (try dsimp only at hSw); obtain ⟨xa, xb, xc, xd, xe, xf, xg, xh, xi, xj⟩ := hSw.bx.all; obtain ⟨ra, rb, rc, rd, re, rf, rg, rh, ri, rj⟩ := hSw.br.all; go_simp; try with_reducible rfl)
  try simp only [Act.put, List.setIfInBounds_toArray, List.set_cons_zero, List.set_cons_succ]
  refine wpAnyH_ready (rs := [57]) (by kernel_rfl) (by simp) ?_
  refine AllReadyH.cons (o := { dst := some 110, op := Op.call { callee := Callee.value (Operand.func 15), args := #[Operand.tmp 108, Operand.tmp 109], argTypes := #[26, 26] }, type := 26, pos := "law.go:67", after := #[{ on := 55, ground := Ground.data }, { on := 56, ground := Ground.data }, { on := 54, ground := Ground.chain }, { on := 54, ground := Ground.guard }], guard := some (54, true) }) (by kernel_rfl) (fun K hK => ?_) AllReadyH.nil
  rw [if_pos (by kernel_rfl)]
  go_simp
  go_wp2_with fail
  refine (C57.out _ hHeld).mono ?_
  rintro e W57 ⟨r2, rfl, ok2, -, hq2, hb⟩
  have hM := hHeld.on hb
  have C59 := same_any r2 r _ ok2 hM.okr
  rw [hq2, sm_same] at C59
  have H59 := hid C59
  refine hK.out _ _ hM (fun _ => ?_)
  clear hK K hHeld hb ok2 hq2 C59
  have hHeld := hM
  clear hM
  try simp only [Act.put, List.setIfInBounds_toArray, List.set_cons_zero, List.set_cons_succ]
  refine wpAnyH_ready (rs := [59]) (by kernel_rfl) (by simp) ?_
  refine AllReadyH.cons (o := { dst := some 112, op := Op.call { callee := Callee.value (Operand.func 19), args := #[Operand.tmp 110, Operand.tmp 111], argTypes := #[26, 26] }, type := 4, pos := "law.go:67", after := #[{ on := 57, ground := Ground.data }, { on := 58, ground := Ground.data }, { on := 57, ground := Ground.chain }, { on := 54, ground := Ground.guard }], guard := some (54, true) }) (by kernel_rfl) (fun K hK => ?_) AllReadyH.nil
  rw [if_pos (by kernel_rfl)]
  go_simp
  go_wp2_with fail
  refine (H59.out).mono ?_
  rintro e W59 ⟨rfl, hb⟩
  have hM := hHeld.on hb
  refine hK.out _ _ hM (fun _ => ?_)
  clear hK K hHeld hb
  have hHeld := hM
  clear hM
  try simp only [Act.put, List.setIfInBounds_toArray, List.set_cons_zero, List.set_cons_succ]
  refine wpAnyH_take (i := 60) (v := ?_) (oi := { dst := some 113, op := Op.pick (Operand.tmp 107) (Operand.tmp 112) (Operand.const (Value.bool false)), type := 4, pos := "law.go:67", after := #[{ on := 54, ground := Ground.data }, { on := 59, ground := Ground.data }], guard := none }) (by kernel_rfl) (by kernel_rfl) (by kernel_rfl) (by kernel_rfl) (fun _ _ _ h => h) (Or.inl ⟨by kernel_rfl, ?hy60⟩) (by assumption) ?_
  case hy60 => (intro w hSw; (try dsimp only at hSw); obtain ⟨xa, xb, xc, xd, xe, xf, xg, xh, xi, xj⟩ := hSw.bx.all; obtain ⟨ra, rb, rc, rd, re, rf, rg, rh, ri, rj⟩ := hSw.br.all; go_simp; try with_reducible rfl)
  try simp only [Act.put, List.setIfInBounds_toArray, List.set_cons_zero, List.set_cons_succ]
  refine wpAnyH_take (i := 61) (v := ?_) (oi := { dst := some 114, op := Op.move (Operand.tmp 113), type := 4, pos := "law.go:67", after := #[{ on := 60, ground := Ground.data }, { on := 59, ground := Ground.chain }], guard := none }) (by kernel_rfl) (by kernel_rfl) (by kernel_rfl) (by kernel_rfl) (fun _ _ _ h => h) (Or.inl ⟨by kernel_rfl, ?hy61⟩) (by assumption) ?_
  case hy61 => (intro w hSw; (try dsimp only at hSw); obtain ⟨xa, xb, xc, xd, xe, xf, xg, xh, xi, xj⟩ := hSw.bx.all; obtain ⟨ra, rb, rc, rd, re, rf, rg, rh, ri, rj⟩ := hSw.br.all; go_simp; try with_reducible rfl)
  try simp only [Act.put, List.setIfInBounds_toArray, List.set_cons_zero, List.set_cons_succ]
  refine wpAnyH_ready (rs := [62]) (by kernel_rfl) (by simp) ?_
  refine AllReadyH.cons (o := { dst := some 115, op := Op.call { callee := Callee.value (Operand.func 8), args := #[], argTypes := #[] }, type := 4, pos := "law.go:67", after := #[{ on := 61, ground := Ground.chain }, { on := 61, ground := Ground.guard }], guard := some (61, true) }) (by kernel_rfl) (fun K hK => ?_) AllReadyH.nil
  rw [if_pos (by kernel_rfl)]
  go_simp
  go_wp2_with fail
  refine (awake_any _).mono ?_
  rintro e W62 ⟨rfl, hb⟩
  have hM := hHeld.on hb
  refine hK.out _ _ hM (fun _ => ?_)
  clear hK K hHeld hb
  have hHeld := hM
  clear hM
  try simp only [Act.put, List.setIfInBounds_toArray, List.set_cons_zero, List.set_cons_succ]
  refine wpAnyH_take (i := 63) (v := ?_) (oi := { dst := some 116, op := Op.pick (Operand.tmp 114) (Operand.tmp 115) (Operand.const (Value.bool false)), type := 4, pos := "law.go:67", after := #[{ on := 61, ground := Ground.data }, { on := 62, ground := Ground.data }], guard := none }) (by kernel_rfl) (by kernel_rfl) (by kernel_rfl) (by kernel_rfl) (fun _ _ _ h => h) (Or.inl ⟨by kernel_rfl, ?hy63⟩) (by assumption) ?_
  case hy63 => (intro w hSw; (try dsimp only at hSw); obtain ⟨xa, xb, xc, xd, xe, xf, xg, xh, xi, xj⟩ := hSw.bx.all; obtain ⟨ra, rb, rc, rd, re, rf, rg, rh, ri, rj⟩ := hSw.br.all; go_simp; try with_reducible rfl)
  try simp only [Act.put, List.setIfInBounds_toArray, List.set_cons_zero, List.set_cons_succ]
  refine wpAnyH_take (i := 64) (v := ?_) (oi := { dst := some 2, op := Op.assign (Operand.tmp 116), type := 4, pos := "law.go:67", after := ([{ on := 63, ground := Ground.data }, { on := 62, ground := Ground.chain }, { on := 0, ground := Ground.phase }, { on := 1, ground := Ground.phase }, { on := 2, ground := Ground.phase }, { on := 3, ground := Ground.phase }, { on := 4, ground := Ground.phase }, { on := 5, ground := Ground.phase }, { on := 6, ground := Ground.phase }, { on := 7, ground := Ground.phase }, { on := 8, ground := Ground.phase }, { on := 9, ground := Ground.phase }, { on := 10, ground := Ground.phase }, { on := 11, ground := Ground.phase }, { on := 12, ground := Ground.phase }, { on := 13, ground := Ground.phase }, { on := 14, ground := Ground.phase }, { on := 15, ground := Ground.phase }, { on := 16, ground := Ground.phase }, { on := 17, ground := Ground.phase }, { on := 18, ground := Ground.phase }, { on := 19, ground := Ground.phase }, { on := 20, ground := Ground.phase }, { on := 21, ground := Ground.phase }, { on := 22, ground := Ground.phase }, { on := 23, ground := Ground.phase }, { on := 24, ground := Ground.phase }, { on := 25, ground := Ground.phase }, { on := 26, ground := Ground.phase }, { on := 27, ground := Ground.phase }, { on := 28, ground := Ground.phase }, { on := 29, ground := Ground.phase }, { on := 30, ground := Ground.phase }].append [{ on := 31, ground := Ground.phase }, { on := 32, ground := Ground.phase }, { on := 33, ground := Ground.phase }, { on := 34, ground := Ground.phase }, { on := 35, ground := Ground.phase }, { on := 36, ground := Ground.phase }, { on := 37, ground := Ground.phase }, { on := 38, ground := Ground.phase }, { on := 39, ground := Ground.phase }, { on := 40, ground := Ground.phase }, { on := 41, ground := Ground.phase }, { on := 42, ground := Ground.phase }, { on := 43, ground := Ground.phase }, { on := 44, ground := Ground.phase }, { on := 45, ground := Ground.phase }, { on := 46, ground := Ground.phase }, { on := 47, ground := Ground.phase }, { on := 48, ground := Ground.phase }, { on := 49, ground := Ground.phase }, { on := 50, ground := Ground.phase }, { on := 51, ground := Ground.phase }, { on := 52, ground := Ground.phase }, { on := 53, ground := Ground.phase }, { on := 54, ground := Ground.phase }, { on := 55, ground := Ground.phase }, { on := 56, ground := Ground.phase }, { on := 57, ground := Ground.phase }, { on := 58, ground := Ground.phase }, { on := 59, ground := Ground.phase }, { on := 60, ground := Ground.phase }, { on := 61, ground := Ground.phase }, { on := 62, ground := Ground.phase }, { on := 63, ground := Ground.phase }]).toArray, guard := none }) (by kernel_rfl) (by kernel_rfl) (by kernel_rfl) (by kernel_rfl) (fun _ _ _ h => h) (Or.inl ⟨by kernel_rfl, ?hy64⟩) (by assumption) ?_
  case hy64 => (intro w hSw; (try dsimp only at hSw); obtain ⟨xa, xb, xc, xd, xe, xf, xg, xh, xi, xj⟩ := hSw.bx.all; obtain ⟨ra, rb, rc, rd, re, rf, rg, rh, ri, rj⟩ := hSw.br.all; go_simp; try with_reducible rfl)
  try simp only [Act.put, List.setIfInBounds_toArray, List.set_cons_zero, List.set_cons_succ]
  refine wpAnyH_done (by kernel_rfl) ?_ _
  go_wp2
  go_ret
  exact ⟨rfl, hHeld.bel⟩

theorem walk (x : Sx) (w : World) (h : x.Ok w) : Calls Try.prog 5 #[.agg #[.bool x.at_, .int .i64 x.buf, .slice x.dm.a x.dm.n x.dm.c, .slice x.fr.a x.fr.n x.fr.c, .bool x.inp, .bool x.all, .slice x.rg.a x.rg.n x.rg.c, .bool x.ord, .slice x.od.a x.od.n x.od.c, .slice x.pl.a x.pl.n x.pl.c]] w fun e w' => e = .returned (.bool true) ∧ Below w.heap.size w w' := core x w h
end Go.Proofs.Ytcdflegfjannmaa.stateFirst
