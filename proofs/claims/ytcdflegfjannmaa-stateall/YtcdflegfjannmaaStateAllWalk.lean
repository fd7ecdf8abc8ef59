/- StateAll: for every two states, every slice of children and every child the law returns true; nothing that was there has turned. Written by state/mk_sall.py. -/
import Derived.Test.YtcdflegfjannmaaStaN
import Derived.Test.YtcdflegfjannmaaStaL
import Derived.Test.YtcdflegfjannmaaStaH
namespace Go.Proofs.Ytcdflegfjannmaa.stateAll
open Go Go.RowKit

/-- As push, wherever the block lies. -/
theorem pushG {w : World} {L : List (Nat × Sx)} {u : World} (h : Ch w L u) {P : Nat} (hw : w.heap.size ≤ P) (hL : ∀ p ∈ L, p.1 ≠ P ∧ p.2.Off P) {z r : Sx} (hz : Bs u P z) (hr : r.Ok u) (ho : r.Off P) : Ch w ((P, r) :: L) (stz u P r) := by
  refine ⟨fun p hp => ?_, below_stz h.bel hw r⟩
  rcases List.mem_cons.1 hp with rfl | hp
  · exact ⟨hz.stz r, hr.kpo ho (kp_stz u P r)⟩
  · obtain ⟨h1, h2⟩ := hL p hp
    exact ⟨bs_other_stz (h.res p hp).1 h1 r, (h.res p hp).2.kpo h2 (kp_stz u P r)⟩
theorem off_ch {w : World} {L : List (Nat × Sx)} {u : World} (h : Ch w L u) {P : Nat} (hP : u.heap.size ≤ P) : ∀ p ∈ L, p.1 ≠ P ∧ p.2.Off P := fun p hp => ⟨by have := (h.res p hp).1.lt; omega, off_old (h.res p hp).2 hP⟩
theorem ch_kp {w : World} {L : List (Nat × Sx)} {u v : World} (h : Ch w L u) {P : Nat} (hk : Kp [P] u v) (hw : w.heap.size ≤ P) (hL : ∀ p ∈ L, p.1 ≠ P ∧ p.2.Off P) : Ch w L v :=
  ⟨fun p hp => ⟨⟨(h.res p hp).1.bk.kp hk (by simpa using (hL p hp).1)⟩, (h.res p hp).2.kpo (hL p hp).2 hk⟩, Below.trans h.bel (hk.below h.bel.size (fun k hm => by simp only [List.mem_cons, List.not_mem_nil, or_false] at hm; omega))⟩

/-- The states, the child in its box, the slice of children. -/
structure Ca (w : World) (z0 z1 z2 : Int) (s : Sl) (L : List (Nat × Sx)) (u : World) : Prop where
  ch : Ch w L u
  ck : Bk u (w.heap.size + 1 + 1) 28 #[.int .i64 z0, .int .i64 z1, .int .i64 z2]
  lr : RdM 3 u s.a s.n s.c s.l
theorem Ca.on {w : World} {z0 z1 z2 : Int} {s : Sl} {L : List (Nat × Sx)} {u v : World} (h : Ca w z0 z1 z2 s L u) (hb : Below u.heap.size u v) : Ca w z0 z1 z2 s L v := ⟨h.ch.on hb, h.ck.on hb, h.lr.on hb⟩
theorem Ca.drew {w : World} {z0 z1 z2 : Int} {s : Sl} {L : List (Nat × Sx)} {u : World} (h : Ca w z0 z1 z2 s L u) : Ca w z0 z1 z2 s L u.drew := h.on (Below.refl _ _).drew
/-- Nothing of it lies in P. -/
structure OffA (w : World) (s : Sl) (L : List (Nat × Sx)) (P : Nat) : Prop where
  res : ∀ p ∈ L, p.1 ≠ P ∧ p.2.Off P
  ck : w.heap.size + 1 + 1 ≠ P
  lr : ∀ y, s.a = some y → 0 < s.n → y.block ≠ P
  lo : w.heap.size ≤ P
theorem Ca.off {w : World} {z0 z1 z2 : Int} {s : Sl} {L : List (Nat × Sx)} {u : World} (h : Ca w z0 z1 z2 s L u) {P : Nat} (hP : u.heap.size ≤ P) : OffA w s L P := ⟨off_ch h.ch hP, by have := h.ck.lt; omega, rdm_off h.lr hP, Nat.le_trans h.ch.bel.size hP⟩
theorem Ca.kp {w : World} {z0 z1 z2 : Int} {s : Sl} {L : List (Nat × Sx)} {u v : World} {P : Nat} (h : Ca w z0 z1 z2 s L u) (ho : OffA w s L P) (hk : Kp [P] u v) : Ca w z0 z1 z2 s L v := ⟨ch_kp h.ch hk ho.lo ho.res, h.ck.kp hk (by simpa using ho.ck), h.lr.kp hk (fun y e n hm => ho.lr y e n (by simpa using hm))⟩
theorem Ca.push {w : World} {z0 z1 z2 : Int} {s : Sl} {L : List (Nat × Sx)} {u : World} {P : Nat} (h : Ca w z0 z1 z2 s L u) (ho : OffA w s L P) {z r : Sx} (hz : Bs u P z) (hr : r.Ok u) (hf : r.Off P) : Ca w z0 z1 z2 s ((P, r) :: L) (stz u P r) :=
  ⟨pushG h.ch ho.lo ho.res hz hr hf, h.ck.kp (kp_stz u P r) (by simpa using ho.ck), h.lr.kp (kp_stz u P r) (fun y e n hm => ho.lr y e n (by simpa using hm))⟩
theorem OffA.cons {w : World} {s : Sl} {L : List (Nat × Sx)} {P Q : Nat} {r : Sx} (h : OffA w s L P) (hn : Q ≠ P) (hr : r.Off P) : OffA w s ((Q, r) :: L) P := ⟨fun p hp => by
  rcases List.mem_cons.1 hp with rfl | hp
  · exact ⟨hn, hr⟩
  · exact h.res p hp, h.ck, h.lr, h.lo⟩
theorem bel3 (w : World) (o o' o'' : Obj) : Below w.heap.size w (((w.alloc o).alloc o').alloc o'') := Below.on (Below.on (bel_new _ _) (bel_new _ _)) (bel_new _ _)
theorem ca_new (w : World) (a b : Sx) (z0 z1 z2 : Int) (s : Sl) (oka : a.Ok w) (okb : b.Ok w) (hl : RdM 3 w s.a s.n s.c s.l) : Ca w z0 z1 z2 s [(w.heap.size, a), (w.heap.size + 1, b)] (((w.alloc (.cells #[.bool a.at_, .int .i64 a.buf, .slice a.dm.a a.dm.n a.dm.c, .slice a.fr.a a.fr.n a.fr.c, .bool a.inp, .bool a.all, .slice a.rg.a a.rg.n a.rg.c, .bool a.ord, .slice a.od.a a.od.n a.od.c, .slice a.pl.a a.pl.n a.pl.c] 26)).alloc (.cells #[.bool b.at_, .int .i64 b.buf, .slice b.dm.a b.dm.n b.dm.c, .slice b.fr.a b.fr.n b.fr.c, .bool b.inp, .bool b.all, .slice b.rg.a b.rg.n b.rg.c, .bool b.ord, .slice b.od.a b.od.n b.od.c, .slice b.pl.a b.pl.n b.pl.c] 26)).alloc (.cells #[.int .i64 z0, .int .i64 z1, .int .i64 z2] 28)) := by
  have h1 := ((bs_new w a).on (bel_new _ (.cells #[.bool b.at_, .int .i64 b.buf, .slice b.dm.a b.dm.n b.dm.c, .slice b.fr.a b.fr.n b.fr.c, .bool b.inp, .bool b.all, .slice b.rg.a b.rg.n b.rg.c, .bool b.ord, .slice b.od.a b.od.n b.od.c, .slice b.pl.a b.pl.n b.pl.c] 26))).on (bel_new _ (.cells #[.int .i64 z0, .int .i64 z1, .int .i64 z2] 28))
  have h2 := (bs_new (w.alloc (.cells #[.bool a.at_, .int .i64 a.buf, .slice a.dm.a a.dm.n a.dm.c, .slice a.fr.a a.fr.n a.fr.c, .bool a.inp, .bool a.all, .slice a.rg.a a.rg.n a.rg.c, .bool a.ord, .slice a.od.a a.od.n a.od.c, .slice a.pl.a a.pl.n a.pl.c] 26)) b).on (bel_new _ (.cells #[.int .i64 z0, .int .i64 z1, .int .i64 z2] 28))
  have h3 := bk_new ((w.alloc (.cells #[.bool a.at_, .int .i64 a.buf, .slice a.dm.a a.dm.n a.dm.c, .slice a.fr.a a.fr.n a.fr.c, .bool a.inp, .bool a.all, .slice a.rg.a a.rg.n a.rg.c, .bool a.ord, .slice a.od.a a.od.n a.od.c, .slice a.pl.a a.pl.n a.pl.c] 26)).alloc (.cells #[.bool b.at_, .int .i64 b.buf, .slice b.dm.a b.dm.n b.dm.c, .slice b.fr.a b.fr.n b.fr.c, .bool b.inp, .bool b.all, .slice b.rg.a b.rg.n b.rg.c, .bool b.ord, .slice b.od.a b.od.n b.od.c, .slice b.pl.a b.pl.n b.pl.c] 26)) #[.int .i64 z0, .int .i64 z1, .int .i64 z2] 28
  simp only [size_new] at h2 h3
  have hb := bel3 w (.cells #[.bool a.at_, .int .i64 a.buf, .slice a.dm.a a.dm.n a.dm.c, .slice a.fr.a a.fr.n a.fr.c, .bool a.inp, .bool a.all, .slice a.rg.a a.rg.n a.rg.c, .bool a.ord, .slice a.od.a a.od.n a.od.c, .slice a.pl.a a.pl.n a.pl.c] 26) (.cells #[.bool b.at_, .int .i64 b.buf, .slice b.dm.a b.dm.n b.dm.c, .slice b.fr.a b.fr.n b.fr.c, .bool b.inp, .bool b.all, .slice b.rg.a b.rg.n b.rg.c, .bool b.ord, .slice b.od.a b.od.n b.od.c, .slice b.pl.a b.pl.n b.pl.c] 26) (.cells #[.int .i64 z0, .int .i64 z1, .int .i64 z2] 28)
  refine ⟨⟨fun p hp => ?_, hb⟩, h3, hl.on hb⟩
  simp only [List.mem_cons, List.not_mem_nil, or_false] at hp
  rcases hp with rfl | rfl
  · exact ⟨h1, oka.on hb⟩
  · exact ⟨h2, okb.on hb⟩
/-- With what Find answered, twice. -/
structure Cb (w : World) (z0 z1 z2 : Int) (s : Sl) (L : List (Nat × Sx)) (P8 P13 : Nat) (f0 f1 f2 : Int) (u : World) : Prop where
  ca : Ca w z0 z1 z2 s L u
  k8 : Bk u P8 28 #[.int .i64 f0, .int .i64 f1, .int .i64 f2]
  k13 : Bk u P13 28 #[.int .i64 f0, .int .i64 f1, .int .i64 f2]
theorem Cb.on {w : World} {z0 z1 z2 : Int} {s : Sl} {L : List (Nat × Sx)} {P8 P13 : Nat} {f0 f1 f2 : Int} {u v : World} (h : Cb w z0 z1 z2 s L P8 P13 f0 f1 f2 u) (hb : Below u.heap.size u v) : Cb w z0 z1 z2 s L P8 P13 f0 f1 f2 v := ⟨h.ca.on hb, h.k8.on hb, h.k13.on hb⟩
theorem agg3 {a b c x y z : Int} (h : Value.agg #[.int .i64 a, .int .i64 b, .int .i64 c] = Value.agg #[.int .i64 x, .int .i64 y, .int .i64 z]) : a = x ∧ b = y ∧ c = z := by
  simpa using h
theorem kp3 (u : World) (P : Nat) (a b c : Int) : Kp [P] u (((u.setCell ⟨P, 0, none⟩ (.int .i64 a)).setCell ⟨P, 1, none⟩ (.int .i64 b)).setCell ⟨P, 2, none⟩ (.int .i64 c)) := (((Kp.refl [P] u).set ⟨P, 0, none⟩ (by simp) _).set ⟨P, 1, none⟩ (by simp) _).set ⟨P, 2, none⟩ (by simp) _
theorem bk3 {u : World} {P T : Nat} {p q r : Value} (h : Bk u P T #[p, q, r]) (a b c : Int) : Bk (((u.setCell ⟨P, 0, none⟩ (.int .i64 a)).setCell ⟨P, 1, none⟩ (.int .i64 b)).setCell ⟨P, 2, none⟩ (.int .i64 c)) P T #[.int .i64 a, .int .i64 b, .int .i64 c] := ((h.set 0 _).set 1 _).set 2 _

/-- The operations of a region of the program, as the print shows them. -/
def opsA3 : Array Oper := #[
  { dst := some 29, op := Op.load 26 (Operand.tmp 4), type := 26, pos := "law.go:27", after := #[], guard := none },
  { dst := some 30, op := Op.call { callee := Callee.value (Operand.func 9), args := #[Operand.tmp 29], argTypes := #[26] }, type := 26, pos := "law.go:27", after := #[{ on := 0, ground := Ground.data }], guard := none },
  { dst := some 31, op := Op.load 26 (Operand.tmp 5), type := 26, pos := "law.go:27", after := #[], guard := none },
  { dst := some 32, op := Op.call { callee := Callee.value (Operand.func 9), args := #[Operand.tmp 31], argTypes := #[26] }, type := 26, pos := "law.go:27", after := #[{ on := 2, ground := Ground.data }, { on := 1, ground := Ground.chain }], guard := none },
  { dst := some 9, op := Op.alloc 26, type := 0, pos := "law.go:27", after := #[], guard := none },
  { dst := some 10, op := Op.alloc 26, type := 0, pos := "law.go:27", after := #[], guard := none },
  { dst := none, op := Op.store 26 (Operand.tmp 9) (Operand.tmp 30), type := 0, pos := "law.go:27", after := #[{ on := 4, ground := Ground.data }, { on := 1, ground := Ground.data }, { on := 3, ground := Ground.chain }, { on := 0, ground := Ground.phase }, { on := 1, ground := Ground.phase }, { on := 2, ground := Ground.textOnly Departure.lateStores }, { on := 3, ground := Ground.textOnly Departure.lateStoresUnsure }, { on := 4, ground := Ground.phase }, { on := 5, ground := Ground.phase }], guard := none },
  { dst := none, op := Op.store 26 (Operand.tmp 10) (Operand.tmp 32), type := 0, pos := "law.go:27", after := #[{ on := 5, ground := Ground.data }, { on := 3, ground := Ground.data }, { on := 6, ground := Ground.chain }, { on := 0, ground := Ground.phase }, { on := 1, ground := Ground.phase }, { on := 2, ground := Ground.phase }, { on := 3, ground := Ground.phase }, { on := 4, ground := Ground.phase }, { on := 5, ground := Ground.phase }, { on := 6, ground := Ground.phase }], guard := none }]
/-- The operations of a region of the program, as the print shows them. -/
def opsA4 : Array Oper := #[
  { dst := some 34, op := Op.move (Operand.tmp 2), type := 24, pos := "law.go:28", after := #[], guard := none },
  { dst := some 35, op := Op.call { callee := Callee.builtin Builtin.append, args := #[Operand.const (Value.slice none 0 0), Operand.tmp 34], argTypes := #[24, 24] }, type := 24, pos := "law.go:28", after := #[{ on := 0, ground := Ground.data }], guard := none },
  { dst := some 36, op := Op.fieldAddr 28 (Operand.tmp 7) 0, type := 0, pos := "law.go:28", after := #[], guard := none },
  { dst := some 37, op := Op.load 3 (Operand.tmp 36), type := 3, pos := "law.go:28", after := #[{ on := 2, ground := Ground.data }], guard := none },
  { dst := some 38, op := Op.call { callee := Callee.value (Operand.func 10), args := #[Operand.tmp 35, Operand.tmp 37], argTypes := #[24, 3] }, type := 32, pos := "law.go:28", after := #[{ on := 1, ground := Ground.data }, { on := 3, ground := Ground.data }, { on := 1, ground := Ground.chain }], guard := none },
  { dst := some 33, op := Op.move (Operand.tmp 38), type := 32, pos := "law.go:28", after := #[{ on := 4, ground := Ground.data }], guard := none },
  { dst := some 39, op := Op.extract (Operand.tmp 33) 0, type := 28, pos := "law.go:28", after := #[{ on := 5, ground := Ground.data }], guard := none },
  { dst := some 40, op := Op.extract (Operand.tmp 33) 1, type := 4, pos := "law.go:28", after := #[{ on := 5, ground := Ground.data }, { on := 9, ground := Ground.gcOnly Departure.lateStores }], guard := none },
  { dst := some 11, op := Op.alloc 28, type := 0, pos := "law.go:28", after := #[], guard := none },
  { dst := none, op := Op.store 28 (Operand.tmp 11) (Operand.tmp 39), type := 0, pos := "law.go:28", after := #[{ on := 8, ground := Ground.data }, { on := 6, ground := Ground.data }, { on := 4, ground := Ground.chain }, { on := 0, ground := Ground.phase }, { on := 1, ground := Ground.phase }, { on := 2, ground := Ground.phase }, { on := 3, ground := Ground.phase }, { on := 4, ground := Ground.phase }, { on := 5, ground := Ground.phase }, { on := 6, ground := Ground.phase }, { on := 7, ground := Ground.textOnly Departure.lateStores }, { on := 8, ground := Ground.phase }], guard := none },
  { dst := some 12, op := Op.assign (Operand.tmp 40), type := 4, pos := "law.go:28", after := #[{ on := 7, ground := Ground.data }, { on := 9, ground := Ground.chain }, { on := 0, ground := Ground.phase }, { on := 1, ground := Ground.phase }, { on := 2, ground := Ground.phase }, { on := 3, ground := Ground.phase }, { on := 4, ground := Ground.phase }, { on := 5, ground := Ground.phase }, { on := 6, ground := Ground.phase }, { on := 7, ground := Ground.phase }, { on := 8, ground := Ground.phase }, { on := 9, ground := Ground.phase }], guard := none }]
/-- The operations of a region of the program, as the print shows them. -/
def opsA6 : Array Oper := #[
  { dst := some 48, op := Op.load 26 (Operand.tmp 9), type := 26, pos := "law.go:30", after := #[], guard := none },
  { dst := some 49, op := Op.load 26 (Operand.tmp 10), type := 26, pos := "law.go:30", after := #[], guard := none },
  { dst := some 50, op := Op.call { callee := Callee.value (Operand.func 13), args := #[Operand.tmp 48, Operand.tmp 49], argTypes := #[26, 26] }, type := 26, pos := "law.go:30", after := #[{ on := 0, ground := Ground.data }, { on := 1, ground := Ground.data }], guard := none },
  { dst := some 51, op := Op.load 26 (Operand.tmp 4), type := 26, pos := "law.go:30", after := #[], guard := none },
  { dst := some 52, op := Op.load 26 (Operand.tmp 5), type := 26, pos := "law.go:30", after := #[], guard := none },
  { dst := some 53, op := Op.call { callee := Callee.value (Operand.func 14), args := #[Operand.tmp 51, Operand.tmp 52], argTypes := #[26, 26] }, type := 26, pos := "law.go:30", after := #[{ on := 3, ground := Ground.data }, { on := 4, ground := Ground.data }, { on := 2, ground := Ground.chain }], guard := none },
  { dst := some 54, op := Op.call { callee := Callee.value (Operand.func 12), args := #[Operand.tmp 50, Operand.tmp 53], argTypes := #[26, 26] }, type := 4, pos := "law.go:30", after := #[{ on := 2, ground := Ground.data }, { on := 5, ground := Ground.data }, { on := 5, ground := Ground.chain }], guard := none },
  { dst := some 55, op := Op.move (Operand.tmp 54), type := 4, pos := "law.go:30", after := #[{ on := 6, ground := Ground.data }, { on := 6, ground := Ground.chain }], guard := none },
  { dst := some 56, op := Op.load 26 (Operand.tmp 9), type := 26, pos := "law.go:30", after := #[{ on := 7, ground := Ground.guard }], guard := some (7, true) },
  { dst := some 57, op := Op.load 26 (Operand.tmp 10), type := 26, pos := "law.go:30", after := #[{ on := 7, ground := Ground.guard }], guard := some (7, true) },
  { dst := some 58, op := Op.call { callee := Callee.value (Operand.func 15), args := #[Operand.tmp 56, Operand.tmp 57], argTypes := #[26, 26] }, type := 26, pos := "law.go:30", after := #[{ on := 8, ground := Ground.data }, { on := 9, ground := Ground.data }, { on := 7, ground := Ground.chain }, { on := 7, ground := Ground.guard }], guard := some (7, true) },
  { dst := some 59, op := Op.load 26 (Operand.tmp 4), type := 26, pos := "law.go:30", after := #[{ on := 7, ground := Ground.guard }], guard := some (7, true) },
  { dst := some 60, op := Op.load 26 (Operand.tmp 5), type := 26, pos := "law.go:30", after := #[{ on := 7, ground := Ground.guard }], guard := some (7, true) },
  { dst := some 61, op := Op.call { callee := Callee.value (Operand.func 16), args := #[Operand.tmp 59, Operand.tmp 60], argTypes := #[26, 26] }, type := 26, pos := "law.go:30", after := #[{ on := 11, ground := Ground.data }, { on := 12, ground := Ground.data }, { on := 10, ground := Ground.chain }, { on := 7, ground := Ground.guard }], guard := some (7, true) },
  { dst := some 62, op := Op.call { callee := Callee.value (Operand.func 12), args := #[Operand.tmp 58, Operand.tmp 61], argTypes := #[26, 26] }, type := 4, pos := "law.go:30", after := #[{ on := 10, ground := Ground.data }, { on := 13, ground := Ground.data }, { on := 13, ground := Ground.chain }, { on := 7, ground := Ground.guard }], guard := some (7, true) },
  { dst := some 63, op := Op.pick (Operand.tmp 55) (Operand.tmp 62) (Operand.const (Value.bool false)), type := 4, pos := "law.go:30", after := #[{ on := 7, ground := Ground.data }, { on := 14, ground := Ground.data }], guard := none },
  { dst := some 64, op := Op.move (Operand.tmp 63), type := 4, pos := "law.go:30", after := #[{ on := 15, ground := Ground.data }, { on := 14, ground := Ground.chain }], guard := none },
  { dst := some 65, op := Op.load 26 (Operand.tmp 9), type := 26, pos := "law.go:30", after := #[{ on := 16, ground := Ground.guard }], guard := some (16, true) },
  { dst := some 66, op := Op.call { callee := Callee.value (Operand.func 17), args := #[Operand.tmp 65], argTypes := #[26] }, type := 4, pos := "law.go:30", after := #[{ on := 17, ground := Ground.data }, { on := 16, ground := Ground.chain }, { on := 16, ground := Ground.guard }], guard := some (16, true) },
  { dst := some 67, op := Op.load 26 (Operand.tmp 4), type := 26, pos := "law.go:30", after := #[{ on := 16, ground := Ground.guard }], guard := some (16, true) },
  { dst := some 68, op := Op.call { callee := Callee.value (Operand.func 18), args := #[Operand.tmp 67], argTypes := #[26] }, type := 4, pos := "law.go:30", after := #[{ on := 19, ground := Ground.data }, { on := 18, ground := Ground.chain }, { on := 16, ground := Ground.guard }], guard := some (16, true) },
  { dst := some 69, op := Op.binOp BinOp.eql 4 (Operand.tmp 66) (Operand.tmp 68) 4, type := 4, pos := "law.go:30", after := #[{ on := 18, ground := Ground.data }, { on := 20, ground := Ground.data }, { on := 16, ground := Ground.guard }], guard := some (16, true) },
  { dst := some 70, op := Op.pick (Operand.tmp 64) (Operand.tmp 69) (Operand.const (Value.bool false)), type := 4, pos := "law.go:30", after := #[{ on := 16, ground := Ground.data }, { on := 21, ground := Ground.data }], guard := none },
  { dst := some 71, op := Op.move (Operand.tmp 70), type := 4, pos := "law.go:30", after := #[{ on := 22, ground := Ground.data }, { on := 20, ground := Ground.chain }], guard := none },
  { dst := some 72, op := Op.load 26 (Operand.tmp 9), type := 26, pos := "law.go:30", after := #[{ on := 23, ground := Ground.guard }], guard := some (23, true) },
  { dst := some 73, op := Op.load 26 (Operand.tmp 10), type := 26, pos := "law.go:30", after := #[{ on := 23, ground := Ground.guard }], guard := some (23, true) },
  { dst := some 74, op := Op.call { callee := Callee.value (Operand.func 19), args := #[Operand.tmp 72, Operand.tmp 73], argTypes := #[26, 26] }, type := 4, pos := "law.go:30", after := #[{ on := 24, ground := Ground.data }, { on := 25, ground := Ground.data }, { on := 23, ground := Ground.chain }, { on := 23, ground := Ground.guard }], guard := some (23, true) },
  { dst := some 75, op := Op.load 26 (Operand.tmp 4), type := 26, pos := "law.go:30", after := #[{ on := 23, ground := Ground.guard }], guard := some (23, true) },
  { dst := some 76, op := Op.load 26 (Operand.tmp 5), type := 26, pos := "law.go:30", after := #[{ on := 23, ground := Ground.guard }], guard := some (23, true) },
  { dst := some 77, op := Op.call { callee := Callee.value (Operand.func 12), args := #[Operand.tmp 75, Operand.tmp 76], argTypes := #[26, 26] }, type := 4, pos := "law.go:30", after := #[{ on := 27, ground := Ground.data }, { on := 28, ground := Ground.data }, { on := 26, ground := Ground.chain }, { on := 23, ground := Ground.guard }], guard := some (23, true) },
  { dst := some 78, op := Op.binOp BinOp.eql 4 (Operand.tmp 74) (Operand.tmp 77) 4, type := 4, pos := "law.go:30", after := #[{ on := 26, ground := Ground.data }, { on := 29, ground := Ground.data }, { on := 23, ground := Ground.guard }], guard := some (23, true) },
  { dst := some 79, op := Op.pick (Operand.tmp 71) (Operand.tmp 78) (Operand.const (Value.bool false)), type := 4, pos := "law.go:30", after := #[{ on := 23, ground := Ground.data }, { on := 30, ground := Ground.data }], guard := none },
  { dst := some 80, op := Op.move (Operand.tmp 79), type := 4, pos := "law.go:30", after := #[{ on := 31, ground := Ground.data }, { on := 29, ground := Ground.chain }], guard := none },
  { dst := some 81, op := Op.load 28 (Operand.tmp 11), type := 28, pos := "law.go:30", after := #[{ on := 32, ground := Ground.guard }], guard := some (32, true) },
  { dst := some 82, op := Op.load 28 (Operand.tmp 13), type := 28, pos := "law.go:30", after := #[{ on := 32, ground := Ground.guard }], guard := some (32, true) },
  { dst := some 83, op := Op.binOp BinOp.eql 28 (Operand.tmp 81) (Operand.tmp 82) 28, type := 4, pos := "law.go:30", after := #[{ on := 33, ground := Ground.data }, { on := 34, ground := Ground.data }, { on := 32, ground := Ground.guard }], guard := some (32, true) },
  { dst := some 84, op := Op.pick (Operand.tmp 80) (Operand.tmp 83) (Operand.const (Value.bool false)), type := 4, pos := "law.go:30", after := #[{ on := 32, ground := Ground.data }, { on := 35, ground := Ground.data }], guard := none },
  { dst := some 85, op := Op.move (Operand.tmp 84), type := 4, pos := "law.go:30", after := #[{ on := 36, ground := Ground.data }, { on := 32, ground := Ground.chain }], guard := none },
  { dst := some 86, op := Op.move (Operand.tmp 12), type := 4, pos := "law.go:30", after := #[{ on := 37, ground := Ground.guard }], guard := some (37, true) },
  { dst := some 87, op := Op.move (Operand.tmp 14), type := 4, pos := "law.go:30", after := #[{ on := 37, ground := Ground.guard }], guard := some (37, true) },
  { dst := some 88, op := Op.binOp BinOp.eql 4 (Operand.tmp 86) (Operand.tmp 87) 4, type := 4, pos := "law.go:30", after := #[{ on := 38, ground := Ground.data }, { on := 39, ground := Ground.data }, { on := 37, ground := Ground.guard }], guard := some (37, true) },
  { dst := some 89, op := Op.pick (Operand.tmp 85) (Operand.tmp 88) (Operand.const (Value.bool false)), type := 4, pos := "law.go:30", after := #[{ on := 37, ground := Ground.data }, { on := 40, ground := Ground.data }], guard := none },
  { dst := some 90, op := Op.move (Operand.tmp 89), type := 4, pos := "law.go:30", after := #[{ on := 41, ground := Ground.data }, { on := 37, ground := Ground.chain }], guard := none },
  { dst := some 91, op := Op.move (Operand.tmp 2), type := 24, pos := "law.go:30", after := #[{ on := 42, ground := Ground.guard }], guard := some (42, true) },
  { dst := some 92, op := Op.call { callee := Callee.builtin Builtin.append, args := #[Operand.const (Value.slice none 0 0), Operand.tmp 91], argTypes := #[24, 24] }, type := 24, pos := "law.go:30", after := #[{ on := 43, ground := Ground.data }, { on := 42, ground := Ground.chain }, { on := 42, ground := Ground.guard }], guard := some (42, true) },
  { dst := some 93, op := Op.load 28 (Operand.tmp 7), type := 28, pos := "law.go:30", after := #[{ on := 42, ground := Ground.guard }], guard := some (42, true) },
  { dst := some 94, op := Op.call { callee := Callee.value (Operand.func 21), args := #[Operand.tmp 92, Operand.tmp 93], argTypes := #[24, 28] }, type := 24, pos := "law.go:30", after := #[{ on := 44, ground := Ground.data }, { on := 45, ground := Ground.data }, { on := 44, ground := Ground.chain }, { on := 42, ground := Ground.guard }], guard := some (42, true) },
  { dst := some 95, op := Op.move (Operand.tmp 2), type := 24, pos := "law.go:30", after := #[{ on := 42, ground := Ground.guard }], guard := some (42, true) },
  { dst := some 96, op := Op.load 28 (Operand.tmp 7), type := 28, pos := "law.go:30", after := #[{ on := 42, ground := Ground.guard }], guard := some (42, true) },
  { dst := some 97, op := Op.call { callee := Callee.value (Operand.func 22), args := #[Operand.tmp 95, Operand.tmp 96], argTypes := #[24, 28] }, type := 24, pos := "law.go:30", after := #[{ on := 47, ground := Ground.data }, { on := 48, ground := Ground.data }, { on := 46, ground := Ground.chain }, { on := 42, ground := Ground.guard }], guard := some (42, true) },
  { dst := some 98, op := Op.call { callee := Callee.value (Operand.func 20), args := #[Operand.tmp 94, Operand.tmp 97], argTypes := #[24, 24] }, type := 4, pos := "law.go:30", after := #[{ on := 46, ground := Ground.data }, { on := 49, ground := Ground.data }, { on := 49, ground := Ground.chain }, { on := 42, ground := Ground.guard }], guard := some (42, true) },
  { dst := some 99, op := Op.pick (Operand.tmp 90) (Operand.tmp 98) (Operand.const (Value.bool false)), type := 4, pos := "law.go:30", after := #[{ on := 42, ground := Ground.data }, { on := 50, ground := Ground.data }], guard := none },
  { dst := some 100, op := Op.move (Operand.tmp 99), type := 4, pos := "law.go:30", after := #[{ on := 51, ground := Ground.data }, { on := 50, ground := Ground.chain }], guard := none },
  { dst := some 101, op := Op.load 26 (Operand.tmp 9), type := 26, pos := "law.go:30", after := #[{ on := 52, ground := Ground.guard }], guard := some (52, true) },
  { dst := some 102, op := Op.load 26 (Operand.tmp 4), type := 26, pos := "law.go:30", after := #[{ on := 52, ground := Ground.guard }], guard := some (52, true) },
  { dst := some 103, op := Op.call { callee := Callee.value (Operand.func 12), args := #[Operand.tmp 101, Operand.tmp 102], argTypes := #[26, 26] }, type := 4, pos := "law.go:30", after := #[{ on := 53, ground := Ground.data }, { on := 54, ground := Ground.data }, { on := 52, ground := Ground.chain }, { on := 52, ground := Ground.guard }], guard := some (52, true) },
  { dst := some 104, op := Op.pick (Operand.tmp 100) (Operand.tmp 103) (Operand.const (Value.bool false)), type := 4, pos := "law.go:30", after := #[{ on := 52, ground := Ground.data }, { on := 55, ground := Ground.data }], guard := none },
  { dst := some 105, op := Op.move (Operand.tmp 104), type := 4, pos := "law.go:30", after := #[{ on := 56, ground := Ground.data }, { on := 55, ground := Ground.chain }], guard := none },
  { dst := some 106, op := Op.load 26 (Operand.tmp 10), type := 26, pos := "law.go:30", after := #[{ on := 57, ground := Ground.guard }], guard := some (57, true) },
  { dst := some 107, op := Op.load 26 (Operand.tmp 5), type := 26, pos := "law.go:30", after := #[{ on := 57, ground := Ground.guard }], guard := some (57, true) },
  { dst := some 108, op := Op.call { callee := Callee.value (Operand.func 12), args := #[Operand.tmp 106, Operand.tmp 107], argTypes := #[26, 26] }, type := 4, pos := "law.go:30", after := #[{ on := 58, ground := Ground.data }, { on := 59, ground := Ground.data }, { on := 57, ground := Ground.chain }, { on := 57, ground := Ground.guard }], guard := some (57, true) },
  { dst := some 109, op := Op.pick (Operand.tmp 105) (Operand.tmp 108) (Operand.const (Value.bool false)), type := 4, pos := "law.go:30", after := #[{ on := 57, ground := Ground.data }, { on := 60, ground := Ground.data }], guard := none },
  { dst := some 110, op := Op.move (Operand.tmp 109), type := 4, pos := "law.go:30", after := #[{ on := 61, ground := Ground.data }, { on := 60, ground := Ground.chain }], guard := none },
  { dst := some 111, op := Op.call { callee := Callee.value (Operand.func 8), args := #[], argTypes := #[] }, type := 4, pos := "law.go:30", after := #[{ on := 62, ground := Ground.chain }, { on := 62, ground := Ground.guard }], guard := some (62, true) },
  { dst := some 112, op := Op.pick (Operand.tmp 110) (Operand.tmp 111) (Operand.const (Value.bool false)), type := 4, pos := "law.go:30", after := #[{ on := 62, ground := Ground.data }, { on := 63, ground := Ground.data }], guard := none },
  { dst := some 8, op := Op.assign (Operand.tmp 112), type := 4, pos := "law.go:30", after := ([{ on := 64, ground := Ground.data }, { on := 63, ground := Ground.chain }, { on := 0, ground := Ground.phase }, { on := 1, ground := Ground.phase }, { on := 2, ground := Ground.phase }, { on := 3, ground := Ground.phase }, { on := 4, ground := Ground.phase }, { on := 5, ground := Ground.phase }, { on := 6, ground := Ground.phase }, { on := 7, ground := Ground.phase }, { on := 8, ground := Ground.phase }, { on := 9, ground := Ground.phase }, { on := 10, ground := Ground.phase }, { on := 11, ground := Ground.phase }, { on := 12, ground := Ground.phase }, { on := 13, ground := Ground.phase }, { on := 14, ground := Ground.phase }, { on := 15, ground := Ground.phase }, { on := 16, ground := Ground.phase }, { on := 17, ground := Ground.phase }, { on := 18, ground := Ground.phase }, { on := 19, ground := Ground.phase }, { on := 20, ground := Ground.phase }, { on := 21, ground := Ground.phase }, { on := 22, ground := Ground.phase }, { on := 23, ground := Ground.phase }, { on := 24, ground := Ground.phase }, { on := 25, ground := Ground.phase }, { on := 26, ground := Ground.phase }, { on := 27, ground := Ground.phase }, { on := 28, ground := Ground.phase }, { on := 29, ground := Ground.phase }, { on := 30, ground := Ground.phase }].append [{ on := 31, ground := Ground.phase }, { on := 32, ground := Ground.phase }, { on := 33, ground := Ground.phase }, { on := 34, ground := Ground.phase }, { on := 35, ground := Ground.phase }, { on := 36, ground := Ground.phase }, { on := 37, ground := Ground.phase }, { on := 38, ground := Ground.phase }, { on := 39, ground := Ground.phase }, { on := 40, ground := Ground.phase }, { on := 41, ground := Ground.phase }, { on := 42, ground := Ground.phase }, { on := 43, ground := Ground.phase }, { on := 44, ground := Ground.phase }, { on := 45, ground := Ground.phase }, { on := 46, ground := Ground.phase }, { on := 47, ground := Ground.phase }, { on := 48, ground := Ground.phase }, { on := 49, ground := Ground.phase }, { on := 50, ground := Ground.phase }, { on := 51, ground := Ground.phase }, { on := 52, ground := Ground.phase }, { on := 53, ground := Ground.phase }, { on := 54, ground := Ground.phase }, { on := 55, ground := Ground.phase }, { on := 56, ground := Ground.phase }, { on := 57, ground := Ground.phase }, { on := 58, ground := Ground.phase }, { on := 59, ground := Ground.phase }, { on := 60, ground := Ground.phase }, { on := 61, ground := Ground.phase }, { on := 62, ground := Ground.phase }, { on := 63, ground := Ground.phase }, { on := 64, ground := Ground.phase }]).toArray, guard := none }]

set_option maxRecDepth 100000 in
set_option maxHeartbeats 32000000 in
theorem core (a b : Sx) (s : Sl) (z0 z1 z2 : Int) (w : World) (oka : a.Ok w) (okb : b.Ok w) (hl : RdM 3 w s.a s.n s.c s.l) :
    Calls Try.prog 3 #[.agg #[.bool a.at_, .int .i64 a.buf, .slice a.dm.a a.dm.n a.dm.c, .slice a.fr.a a.fr.n a.fr.c, .bool a.inp, .bool a.all, .slice a.rg.a a.rg.n a.rg.c, .bool a.ord, .slice a.od.a a.od.n a.od.c, .slice a.pl.a a.pl.n a.pl.c], .agg #[.bool b.at_, .int .i64 b.buf, .slice b.dm.a b.dm.n b.dm.c, .slice b.fr.a b.fr.n b.fr.c, .bool b.inp, .bool b.all, .slice b.rg.a b.rg.n b.rg.c, .bool b.ord, .slice b.od.a b.od.n b.od.c, .slice b.pl.a b.pl.n b.pl.c], .slice s.a s.n s.c, .agg #[.int .i64 z0, .int .i64 z1, .int .i64 z2]] w fun e w' => e = .returned (.bool true) ∧ Below w.heap.size w w' := by
  obtain ⟨i0, hi, hn0, hn1, hn2⟩ := infoMP infoM3
  have HC := hid (ca_new w a b z0 z1 z2 s oka okb hl)
  have hs := hl.small
  have HSL := hid hl.len
  have HSS := hid hl.size
  have CA : Hid (∀ u, Ca w z0 z1 z2 s [(w.heap.size, a), (w.heap.size + 1, b)] u → Calls Try.prog 7 #[.agg #[.bool a.at_, .int .i64 a.buf, .slice a.dm.a a.dm.n a.dm.c, .slice a.fr.a a.fr.n a.fr.c, .bool a.inp, .bool a.all, .slice a.rg.a a.rg.n a.rg.c, .bool a.ord, .slice a.od.a a.od.n a.od.c, .slice a.pl.a a.pl.n a.pl.c]] u fun e w' => e = .returned (.bool (few a.q)) ∧ RowKit.Below u.heap.size u w') := fun u h => few_any a u (h.ch.res (w.heap.size, a) (by simp)).2
  have CB : Hid (∀ u, Ca w z0 z1 z2 s [(w.heap.size, a), (w.heap.size + 1, b)] u → Calls Try.prog 7 #[.agg #[.bool b.at_, .int .i64 b.buf, .slice b.dm.a b.dm.n b.dm.c, .slice b.fr.a b.fr.n b.fr.c, .bool b.inp, .bool b.all, .slice b.rg.a b.rg.n b.rg.c, .bool b.ord, .slice b.od.a b.od.n b.od.c, .slice b.pl.a b.pl.n b.pl.c]] u fun e w' => e = .returned (.bool (few b.q)) ∧ RowKit.Below u.heap.size u w') := fun u h => few_any b u (h.ch.res (w.heap.size + 1, b) (by simp)).2
  have LA := hid (fun h => few_len oka h)
  have LB := hid (fun h => few_len okb h)
  clear oka okb hl
  go_enter Try.func3, Try.ntmps3
  cases hfa : few a.q
  · rw [hfa] at CA
    go_wp2_with fail
    refine (CA.out _ HC.out).mono ?_
    rintro e w1 ⟨rfl, hb1⟩
    replace HC := hid (HC.out.on hb1)
    clear hb1
    go_wp2_with fail
    refine (awake_any _).mono ?_
    rintro e wz ⟨rfl, hbz⟩
    have HZ := hid (Below.on HC.out.ch.bel hbz)
    clear hbz
    go_wp2
    go_ret
    exact ⟨rfl, HZ.out⟩
  rw [hfa] at CA
  go_wp2_with fail
  refine (CA.out _ HC.out).mono ?_
  rintro e w1 ⟨rfl, hb1⟩
  replace HC := hid (HC.out.on hb1)
  replace LA := hid (LA.out hfa)
  obtain ⟨ba, bb, bc, bd, be, bf, bg, bh, bi, bj⟩ := (HC.out.ch.res (w.heap.size + 1, b) (by simp)).1.all
  clear hb1 hfa CA
  cases hfb : few b.q
  · rw [hfb] at CB
    go_wp2_with fail
    refine (CB.out _ HC.out).mono ?_
    rintro e w2 ⟨rfl, hb2⟩
    replace HC := hid (HC.out.on hb2)
    clear hb2 ba bb bc bd be bf bg bh bi bj
    go_wp2_with fail
    refine (awake_any _).mono ?_
    rintro e wz ⟨rfl, hbz⟩
    have HZ := hid (Below.on HC.out.ch.bel hbz)
    clear hbz
    go_wp2
    go_ret
    exact ⟨rfl, HZ.out⟩
  rw [hfb] at CB
  go_wp2_with fail
  refine (CB.out _ HC.out).mono ?_
  rintro e w2 ⟨rfl, hb2⟩
  replace HC := hid (HC.out.on hb2)
  replace LB := hid (LB.out hfb)
  clear hb2 hfb CB ba bb bc bd be bf bg bh bi bj
  by_cases hbig : 60 < s.n
  · have e1 : decide ((60 : Int) < s.n) = true := decide_eq_true (by omega)
    go_wp2_with fail
    refine (awake_any _).mono ?_
    rintro e wz ⟨rfl, hbz⟩
    have HZ := hid (Below.on HC.out.ch.bel hbz)
    clear hbz
    go_wp2
    go_ret
    exact ⟨rfl, HZ.out⟩
  have e1 : decide ((60 : Int) < s.n) = false := decide_eq_false (by omega)
  go_upto_if 27 with (fail)
  go_cut [0, 1, 3] (fun _ _ _ wc => Ca w z0 z1 z2 s [(w.heap.size, a), (w.heap.size + 1, b)] wc)
  case first =>
    go_wp2_with fail
    go_meet
    exact HC.out
  clear HC e1
  have HC := hid hcut
  clear hcut
  go_upto_region 3 with fail
  go_cut [9, 10] (fun v v' wc => ∃ (P4 P5 : Nat) (x y : Sx), v = .pointer (some ⟨P4, 0, none⟩) ∧ v' = .pointer (some ⟨P5, 0, none⟩) ∧ Ca w z0 z1 z2 s ((P5, y) :: (P4, x) :: [(w.heap.size, a), (w.heap.size + 1, b)]) wc ∧ x.q = a.q ∧ y.q = b.q)
  case first =>
    have HWS : Hid (wc.heap.size ≤ wc.drew.heap.size) := Nat.le_refl _
    refine swap_ops (ops' := opsA3) (by kernel_rfl) ?_
    refine wp_region_gate_drew (g := 6) (S := Ca w z0 z1 z2 s [(w.heap.size, a), (w.heap.size + 1, b)]) (by kernel_rfl) ?hh (fun hHeld => ?_)
    case hh => exact (HC.out.drew)
    generalize wc.drew = W0 at hHeld HWS ⊢
    try dsimp only at hHeld
    refine wpAnyG_take (i := 0) (v := ?_) (oi := { dst := some 29, op := Op.load 26 (Operand.tmp 4), type := 26, pos := "law.go:27", after := #[], guard := none }) (by kernel_rfl) (by kernel_rfl) (by kernel_rfl) (by kernel_rfl) (by kernel_rfl) (fun _ _ _ h => h) (Or.inl ⟨by kernel_rfl, ?hy0⟩) (by assumption) ?_
    case hy0 => (intro wI hSw; (try dsimp only at hSw); obtain ⟨q0a, q0b, q0c, q0d, q0e, q0f, q0g, q0h, q0i, q0j⟩ := (hSw.ch.res (w.heap.size, a) (by simp)).1.all; obtain ⟨q1a, q1b, q1c, q1d, q1e, q1f, q1g, q1h, q1i, q1j⟩ := (hSw.ch.res (w.heap.size + 1, b) (by simp)).1.all; go_simp; try with_reducible rfl)
    try simp only [Act.put, List.setIfInBounds_toArray, List.set_cons_zero, List.set_cons_succ]
    refine wpAnyG_take (i := 2) (v := ?_) (oi := { dst := some 31, op := Op.load 26 (Operand.tmp 5), type := 26, pos := "law.go:27", after := #[], guard := none }) (by kernel_rfl) (by kernel_rfl) (by kernel_rfl) (by kernel_rfl) (by kernel_rfl) (fun _ _ _ h => h) (Or.inl ⟨by kernel_rfl, ?hy2⟩) (by assumption) ?_
    case hy2 => (intro wI hSw; (try dsimp only at hSw); obtain ⟨q0a, q0b, q0c, q0d, q0e, q0f, q0g, q0h, q0i, q0j⟩ := (hSw.ch.res (w.heap.size, a) (by simp)).1.all; obtain ⟨q1a, q1b, q1c, q1d, q1e, q1f, q1g, q1h, q1i, q1j⟩ := (hSw.ch.res (w.heap.size + 1, b) (by simp)).1.all; go_simp; try with_reducible rfl)
    try simp only [Act.put, List.setIfInBounds_toArray, List.set_cons_zero, List.set_cons_succ]
    refine wpAnyG_ready (rs := [1, 4, 5]) (by kernel_rfl) (by simp) ?_
    refine AllReadyG.cons (o := { dst := some 30, op := Op.call { callee := Callee.value (Operand.func 9), args := #[Operand.tmp 29], argTypes := #[26] }, type := 26, pos := "law.go:27", after := #[{ on := 0, ground := Ground.data }], guard := none }) (by kernel_rfl) (fun K hK => ?_) ?_
    · rw [if_pos (by kernel_rfl)]
      go_simp
      go_wp2_with fail
      refine (lstate_any a _ (hHeld.ch.res (w.heap.size, a) (by simp)).2 (len_mono LA.out (by omega))).mono ?_
      rintro e W1 ⟨x, rfl, okr, hnr, hqr, hb⟩
      try have FX4 := hid (off_new hnr HP4.out.lt)
      try have FX5 := hid (off_new hnr HP5.out.lt)
      try replace OX := hid (OX.out.on hb)
      try replace OY := hid (OY.out.on hb)
      try replace HP4 := hid (HP4.out.on hb)
      try replace HP5 := hid (HP5.out.on hb)
      have OX := hid okr
      have QX := hid hqr
      replace HWS := hid (Nat.le_trans HWS.out hb.size)
      have hM := hHeld.on hb
      refine hK.out _ _ hM (fun _ => ?_)
      clear hK K hHeld hb okr hqr hnr
      have hHeld := hM
      clear hM
      try simp only [Act.put, List.setIfInBounds_toArray, List.set_cons_zero, List.set_cons_succ]
      refine wpAnyG_ready (rs := [3, 4, 5]) (by kernel_rfl) (by simp) ?_
      refine AllReadyG.cons (o := { dst := some 32, op := Op.call { callee := Callee.value (Operand.func 9), args := #[Operand.tmp 31], argTypes := #[26] }, type := 26, pos := "law.go:27", after := #[{ on := 2, ground := Ground.data }, { on := 1, ground := Ground.chain }], guard := none }) (by kernel_rfl) (fun K hK => ?_) ?_
      · rw [if_pos (by kernel_rfl)]
        go_simp
        go_wp2_with fail
        refine (lstate_any b _ (hHeld.ch.res (w.heap.size + 1, b) (by simp)).2 (len_mono LB.out (by omega))).mono ?_
        rintro e W3 ⟨y, rfl, okr, hnr, hqr, hb⟩
        try have FY4 := hid (off_new hnr HP4.out.lt)
        try have FY5 := hid (off_new hnr HP5.out.lt)
        try replace OX := hid (OX.out.on hb)
        try replace OY := hid (OY.out.on hb)
        try replace HP4 := hid (HP4.out.on hb)
        try replace HP5 := hid (HP5.out.on hb)
        have OY := hid okr
        have QY := hid hqr
        replace HWS := hid (Nat.le_trans HWS.out hb.size)
        have hM := hHeld.on hb
        refine hK.out _ _ hM (fun _ => ?_)
        clear hK K hHeld hb okr hqr hnr
        have hHeld := hM
        clear hM
        try simp only [Act.put, List.setIfInBounds_toArray, List.set_cons_zero, List.set_cons_succ]
        refine wpAnyG_ready (rs := [4, 5]) (by kernel_rfl) (by simp) ?_
        refine AllReadyG.cons (o := { dst := some 9, op := Op.alloc 26, type := 0, pos := "law.go:27", after := #[], guard := none }) (by kernel_rfl) (fun K hK => ?_) ?_
        · rw [if_pos (by kernel_rfl)]
          have hb := bel_new W3 (.cells #[.bool false, .int .i64 0, .slice none 0 0, .slice none 0 0, .bool false, .bool false, .slice none 0 0, .bool false, .slice none 0 0, .slice none 0 0] 26)
          have hM := hHeld.on hb
          have hk : Bs _ W3.heap.size sx0 := bs_new W3 sx0
          have hP0 : wc.heap.size ≤ W3.heap.size := HWS.out
          try have FX4 := hid (off_old OX.out (Nat.le_refl W3.heap.size))
          try have FY4 := hid (off_old OY.out (Nat.le_refl W3.heap.size))
          try have NE : Hid (P5 ≠ W3.heap.size) := (fun e => by have := HP5.out.lt; omega)
          try replace OX := hid (OX.out.on hb)
          try replace OY := hid (OY.out.on hb)
          try replace HP4 := hid (HP4.out.on hb)
          try replace HP5 := hid (HP5.out.on hb)
          have hws2 := Nat.le_trans HWS.out hb.size
          go_simp
          refine hK.out _ _ hM (fun _ => ?_)
          clear hK K hHeld
          obtain ⟨P4, hPP⟩ : ∃ P, P = W3.heap.size := ⟨_, rfl⟩
          rw [← hPP] at hk hP0 ⊢
          try rw [← hPP] at FX4
          try rw [← hPP] at FY4
          try rw [← hPP] at NE
          have HP4 := hid hk
          have HZ4 := hid hP0
          clear hPP hk hP0
          change Hid (Bs (W3.alloc (.cells #[.bool false, .int .i64 0, .slice none 0 0, .slice none 0 0, .bool false, .bool false, .slice none 0 0, .bool false, .slice none 0 0, .slice none 0 0] 26)) P4 sx0) at HP4
          generalize W3.alloc (.cells #[.bool false, .int .i64 0, .slice none 0 0, .slice none 0 0, .bool false, .bool false, .slice none 0 0, .bool false, .slice none 0 0, .slice none 0 0] 26) = W4 at *
          replace HWS := hid hws2
          have hHeld := hM
          clear hM hb hws2
          try simp only [Act.put, List.setIfInBounds_toArray, List.set_cons_zero, List.set_cons_succ]
          refine wpAnyG_ready (rs := [5]) (by kernel_rfl) (by simp) ?_
          refine AllReadyG.cons (o := { dst := some 10, op := Op.alloc 26, type := 0, pos := "law.go:27", after := #[], guard := none }) (by kernel_rfl) (fun K hK => ?_) AllReadyG.nil
          rw [if_pos (by kernel_rfl)]
          have hb := bel_new W4 (.cells #[.bool false, .int .i64 0, .slice none 0 0, .slice none 0 0, .bool false, .bool false, .slice none 0 0, .bool false, .slice none 0 0, .slice none 0 0] 26)
          have hM := hHeld.on hb
          have hk : Bs _ W4.heap.size sx0 := bs_new W4 sx0
          have hP0 : wc.heap.size ≤ W4.heap.size := HWS.out
          try have FX5 := hid (off_old OX.out (Nat.le_refl W4.heap.size))
          try have FY5 := hid (off_old OY.out (Nat.le_refl W4.heap.size))
          try have NE : Hid (P4 ≠ W4.heap.size) := (fun e => by have := HP4.out.lt; omega)
          try replace OX := hid (OX.out.on hb)
          try replace OY := hid (OY.out.on hb)
          try replace HP4 := hid (HP4.out.on hb)
          try replace HP5 := hid (HP5.out.on hb)
          have hws2 := Nat.le_trans HWS.out hb.size
          go_simp
          refine hK.out _ _ hM (fun _ => ?_)
          clear hK K hHeld
          obtain ⟨P5, hPP⟩ : ∃ P, P = W4.heap.size := ⟨_, rfl⟩
          rw [← hPP] at hk hP0 ⊢
          try rw [← hPP] at FX5
          try rw [← hPP] at FY5
          try rw [← hPP] at NE
          have HP5 := hid hk
          have HZ5 := hid hP0
          clear hPP hk hP0
          change Hid (Bs (W4.alloc (.cells #[.bool false, .int .i64 0, .slice none 0 0, .slice none 0 0, .bool false, .bool false, .slice none 0 0, .bool false, .slice none 0 0, .slice none 0 0] 26)) P5 sx0) at HP5
          generalize W4.alloc (.cells #[.bool false, .int .i64 0, .slice none 0 0, .slice none 0 0, .bool false, .bool false, .slice none 0 0, .bool false, .slice none 0 0, .slice none 0 0] 26) = W5 at *
          replace HWS := hid hws2
          have hHeld := hM
          clear hM hb hws2
          try simp only [Act.put, List.setIfInBounds_toArray, List.set_cons_zero, List.set_cons_succ]
          have hG := hHeld
          clear hHeld
          have hHeld : True := trivial
          refine wpAnyG_gateOp (og := { dst := none, op := Op.store 26 (Operand.tmp 9) (Operand.tmp 30), type := 0, pos := "law.go:27", after := #[{ on := 4, ground := Ground.data }, { on := 1, ground := Ground.data }, { on := 3, ground := Ground.chain }, { on := 0, ground := Ground.phase }, { on := 1, ground := Ground.phase }, { on := 2, ground := Ground.textOnly Departure.lateStores }, { on := 3, ground := Ground.textOnly Departure.lateStoresUnsure }, { on := 4, ground := Ground.phase }, { on := 5, ground := Ground.phase }], guard := none }) (by kernel_rfl) (by kernel_rfl) (fun K hK => ?_)
          rw [if_pos (by kernel_rfl)]
          obtain ⟨za, zb, zc, zd, ze, zf, zg, zh, zi, zj⟩ := HP4.out.all
          dsimp only [sx0, sl0] at za zb zc zd ze zf zg zh zi zj
          have fz := HP4.out.fz
          have hne : P4 ≠ P5 := (by first | exact NE.out | exact Ne.symm NE.out)
          have hQ := hG.push (HC.out.off HZ4.out) HP4.out OX.out FX4.out
          have HY6 := hid (OY.out.kpo FY4.out (kp_stz W5 P4 x))
          have HP6 := hid (bs_other_stz HP5.out (Ne.symm hne) x)
          go_simp
          refine hK.out _ _ trivial (fun _ => ?_)
          clear hK K fz za zb zc zd ze zf zg zh zi zj HP5 OY OX HP4
          change wpAnyH _ _ _ _ _ _ _ _ (stz W5 P4 x)
          generalize stz W5 P4 x = W6 at *
          try simp only [Act.put, List.setIfInBounds_toArray, List.set_cons_zero, List.set_cons_succ]
          refine wpAnyH_ready (rs := [7]) (by kernel_rfl) (by simp) ?_
          refine AllReadyH.cons (o := { dst := none, op := Op.store 26 (Operand.tmp 10) (Operand.tmp 32), type := 0, pos := "law.go:27", after := #[{ on := 5, ground := Ground.data }, { on := 3, ground := Ground.data }, { on := 6, ground := Ground.chain }, { on := 0, ground := Ground.phase }, { on := 1, ground := Ground.phase }, { on := 2, ground := Ground.phase }, { on := 3, ground := Ground.phase }, { on := 4, ground := Ground.phase }, { on := 5, ground := Ground.phase }, { on := 6, ground := Ground.phase }], guard := none }) (by kernel_rfl) (fun K hK => ?_) AllReadyH.nil
          rw [if_pos (by kernel_rfl)]
          obtain ⟨za, zb, zc, zd, ze, zf, zg, zh, zi, zj⟩ := HP6.out.all
          dsimp only [sx0, sl0] at za zb zc zd ze zf zg zh zi zj
          have fz := HP6.out.fz
          have hQ2 := hQ.push ((HC.out.off HZ5.out).cons hne FX5.out) HP6.out HY6.out FY5.out
          go_simp
          refine hK.out _ _ trivial (fun _ => ?_)
          clear hK K
          try simp only [Act.put, List.setIfInBounds_toArray, List.set_cons_zero, List.set_cons_succ]
          refine wpAnyH_done (by kernel_rfl) ?_ _
          go_wp2_with fail
          go_meet
          exact ⟨P4, P5, x, y, rfl, rfl, hQ2, QX.out, QY.out⟩
        refine AllReadyG.cons (o := { dst := some 10, op := Op.alloc 26, type := 0, pos := "law.go:27", after := #[], guard := none }) (by kernel_rfl) (fun K hK => ?_) ?_
        · rw [if_pos (by kernel_rfl)]
          have hb := bel_new W3 (.cells #[.bool false, .int .i64 0, .slice none 0 0, .slice none 0 0, .bool false, .bool false, .slice none 0 0, .bool false, .slice none 0 0, .slice none 0 0] 26)
          have hM := hHeld.on hb
          have hk : Bs _ W3.heap.size sx0 := bs_new W3 sx0
          have hP0 : wc.heap.size ≤ W3.heap.size := HWS.out
          try have FX5 := hid (off_old OX.out (Nat.le_refl W3.heap.size))
          try have FY5 := hid (off_old OY.out (Nat.le_refl W3.heap.size))
          try have NE : Hid (P4 ≠ W3.heap.size) := (fun e => by have := HP4.out.lt; omega)
          try replace OX := hid (OX.out.on hb)
          try replace OY := hid (OY.out.on hb)
          try replace HP4 := hid (HP4.out.on hb)
          try replace HP5 := hid (HP5.out.on hb)
          have hws2 := Nat.le_trans HWS.out hb.size
          go_simp
          refine hK.out _ _ hM (fun _ => ?_)
          clear hK K hHeld
          obtain ⟨P5, hPP⟩ : ∃ P, P = W3.heap.size := ⟨_, rfl⟩
          rw [← hPP] at hk hP0 ⊢
          try rw [← hPP] at FX5
          try rw [← hPP] at FY5
          try rw [← hPP] at NE
          have HP5 := hid hk
          have HZ5 := hid hP0
          clear hPP hk hP0
          change Hid (Bs (W3.alloc (.cells #[.bool false, .int .i64 0, .slice none 0 0, .slice none 0 0, .bool false, .bool false, .slice none 0 0, .bool false, .slice none 0 0, .slice none 0 0] 26)) P5 sx0) at HP5
          generalize W3.alloc (.cells #[.bool false, .int .i64 0, .slice none 0 0, .slice none 0 0, .bool false, .bool false, .slice none 0 0, .bool false, .slice none 0 0, .slice none 0 0] 26) = W5 at *
          replace HWS := hid hws2
          have hHeld := hM
          clear hM hb hws2
          try simp only [Act.put, List.setIfInBounds_toArray, List.set_cons_zero, List.set_cons_succ]
          refine wpAnyG_ready (rs := [4]) (by kernel_rfl) (by simp) ?_
          refine AllReadyG.cons (o := { dst := some 9, op := Op.alloc 26, type := 0, pos := "law.go:27", after := #[], guard := none }) (by kernel_rfl) (fun K hK => ?_) AllReadyG.nil
          rw [if_pos (by kernel_rfl)]
          have hb := bel_new W5 (.cells #[.bool false, .int .i64 0, .slice none 0 0, .slice none 0 0, .bool false, .bool false, .slice none 0 0, .bool false, .slice none 0 0, .slice none 0 0] 26)
          have hM := hHeld.on hb
          have hk : Bs _ W5.heap.size sx0 := bs_new W5 sx0
          have hP0 : wc.heap.size ≤ W5.heap.size := HWS.out
          try have FX4 := hid (off_old OX.out (Nat.le_refl W5.heap.size))
          try have FY4 := hid (off_old OY.out (Nat.le_refl W5.heap.size))
          try have NE : Hid (P5 ≠ W5.heap.size) := (fun e => by have := HP5.out.lt; omega)
          try replace OX := hid (OX.out.on hb)
          try replace OY := hid (OY.out.on hb)
          try replace HP4 := hid (HP4.out.on hb)
          try replace HP5 := hid (HP5.out.on hb)
          have hws2 := Nat.le_trans HWS.out hb.size
          go_simp
          refine hK.out _ _ hM (fun _ => ?_)
          clear hK K hHeld
          obtain ⟨P4, hPP⟩ : ∃ P, P = W5.heap.size := ⟨_, rfl⟩
          rw [← hPP] at hk hP0 ⊢
          try rw [← hPP] at FX4
          try rw [← hPP] at FY4
          try rw [← hPP] at NE
          have HP4 := hid hk
          have HZ4 := hid hP0
          clear hPP hk hP0
          change Hid (Bs (W5.alloc (.cells #[.bool false, .int .i64 0, .slice none 0 0, .slice none 0 0, .bool false, .bool false, .slice none 0 0, .bool false, .slice none 0 0, .slice none 0 0] 26)) P4 sx0) at HP4
          generalize W5.alloc (.cells #[.bool false, .int .i64 0, .slice none 0 0, .slice none 0 0, .bool false, .bool false, .slice none 0 0, .bool false, .slice none 0 0, .slice none 0 0] 26) = W4 at *
          replace HWS := hid hws2
          have hHeld := hM
          clear hM hb hws2
          try simp only [Act.put, List.setIfInBounds_toArray, List.set_cons_zero, List.set_cons_succ]
          have hG := hHeld
          clear hHeld
          have hHeld : True := trivial
          refine wpAnyG_gateOp (og := { dst := none, op := Op.store 26 (Operand.tmp 9) (Operand.tmp 30), type := 0, pos := "law.go:27", after := #[{ on := 4, ground := Ground.data }, { on := 1, ground := Ground.data }, { on := 3, ground := Ground.chain }, { on := 0, ground := Ground.phase }, { on := 1, ground := Ground.phase }, { on := 2, ground := Ground.textOnly Departure.lateStores }, { on := 3, ground := Ground.textOnly Departure.lateStoresUnsure }, { on := 4, ground := Ground.phase }, { on := 5, ground := Ground.phase }], guard := none }) (by kernel_rfl) (by kernel_rfl) (fun K hK => ?_)
          rw [if_pos (by kernel_rfl)]
          obtain ⟨za, zb, zc, zd, ze, zf, zg, zh, zi, zj⟩ := HP4.out.all
          dsimp only [sx0, sl0] at za zb zc zd ze zf zg zh zi zj
          have fz := HP4.out.fz
          have hne : P4 ≠ P5 := (by first | exact NE.out | exact Ne.symm NE.out)
          have hQ := hG.push (HC.out.off HZ4.out) HP4.out OX.out FX4.out
          have HY6 := hid (OY.out.kpo FY4.out (kp_stz W4 P4 x))
          have HP6 := hid (bs_other_stz HP5.out (Ne.symm hne) x)
          go_simp
          refine hK.out _ _ trivial (fun _ => ?_)
          clear hK K fz za zb zc zd ze zf zg zh zi zj HP5 OY OX HP4
          change wpAnyH _ _ _ _ _ _ _ _ (stz W4 P4 x)
          generalize stz W4 P4 x = W6 at *
          try simp only [Act.put, List.setIfInBounds_toArray, List.set_cons_zero, List.set_cons_succ]
          refine wpAnyH_ready (rs := [7]) (by kernel_rfl) (by simp) ?_
          refine AllReadyH.cons (o := { dst := none, op := Op.store 26 (Operand.tmp 10) (Operand.tmp 32), type := 0, pos := "law.go:27", after := #[{ on := 5, ground := Ground.data }, { on := 3, ground := Ground.data }, { on := 6, ground := Ground.chain }, { on := 0, ground := Ground.phase }, { on := 1, ground := Ground.phase }, { on := 2, ground := Ground.phase }, { on := 3, ground := Ground.phase }, { on := 4, ground := Ground.phase }, { on := 5, ground := Ground.phase }, { on := 6, ground := Ground.phase }], guard := none }) (by kernel_rfl) (fun K hK => ?_) AllReadyH.nil
          rw [if_pos (by kernel_rfl)]
          obtain ⟨za, zb, zc, zd, ze, zf, zg, zh, zi, zj⟩ := HP6.out.all
          dsimp only [sx0, sl0] at za zb zc zd ze zf zg zh zi zj
          have fz := HP6.out.fz
          have hQ2 := hQ.push ((HC.out.off HZ5.out).cons hne FX5.out) HP6.out HY6.out FY5.out
          go_simp
          refine hK.out _ _ trivial (fun _ => ?_)
          clear hK K
          try simp only [Act.put, List.setIfInBounds_toArray, List.set_cons_zero, List.set_cons_succ]
          refine wpAnyH_done (by kernel_rfl) ?_ _
          go_wp2_with fail
          go_meet
          exact ⟨P4, P5, x, y, rfl, rfl, hQ2, QX.out, QY.out⟩
        exact AllReadyG.nil
      refine AllReadyG.cons (o := { dst := some 9, op := Op.alloc 26, type := 0, pos := "law.go:27", after := #[], guard := none }) (by kernel_rfl) (fun K hK => ?_) ?_
      · rw [if_pos (by kernel_rfl)]
        have hb := bel_new W1 (.cells #[.bool false, .int .i64 0, .slice none 0 0, .slice none 0 0, .bool false, .bool false, .slice none 0 0, .bool false, .slice none 0 0, .slice none 0 0] 26)
        have hM := hHeld.on hb
        have hk : Bs _ W1.heap.size sx0 := bs_new W1 sx0
        have hP0 : wc.heap.size ≤ W1.heap.size := HWS.out
        try have FX4 := hid (off_old OX.out (Nat.le_refl W1.heap.size))
        try have FY4 := hid (off_old OY.out (Nat.le_refl W1.heap.size))
        try have NE : Hid (P5 ≠ W1.heap.size) := (fun e => by have := HP5.out.lt; omega)
        try replace OX := hid (OX.out.on hb)
        try replace OY := hid (OY.out.on hb)
        try replace HP4 := hid (HP4.out.on hb)
        try replace HP5 := hid (HP5.out.on hb)
        have hws2 := Nat.le_trans HWS.out hb.size
        go_simp
        refine hK.out _ _ hM (fun _ => ?_)
        clear hK K hHeld
        obtain ⟨P4, hPP⟩ : ∃ P, P = W1.heap.size := ⟨_, rfl⟩
        rw [← hPP] at hk hP0 ⊢
        try rw [← hPP] at FX4
        try rw [← hPP] at FY4
        try rw [← hPP] at NE
        have HP4 := hid hk
        have HZ4 := hid hP0
        clear hPP hk hP0
        change Hid (Bs (W1.alloc (.cells #[.bool false, .int .i64 0, .slice none 0 0, .slice none 0 0, .bool false, .bool false, .slice none 0 0, .bool false, .slice none 0 0, .slice none 0 0] 26)) P4 sx0) at HP4
        generalize W1.alloc (.cells #[.bool false, .int .i64 0, .slice none 0 0, .slice none 0 0, .bool false, .bool false, .slice none 0 0, .bool false, .slice none 0 0, .slice none 0 0] 26) = W4 at *
        replace HWS := hid hws2
        have hHeld := hM
        clear hM hb hws2
        try simp only [Act.put, List.setIfInBounds_toArray, List.set_cons_zero, List.set_cons_succ]
        refine wpAnyG_ready (rs := [3, 5]) (by kernel_rfl) (by simp) ?_
        refine AllReadyG.cons (o := { dst := some 32, op := Op.call { callee := Callee.value (Operand.func 9), args := #[Operand.tmp 31], argTypes := #[26] }, type := 26, pos := "law.go:27", after := #[{ on := 2, ground := Ground.data }, { on := 1, ground := Ground.chain }], guard := none }) (by kernel_rfl) (fun K hK => ?_) ?_
        · rw [if_pos (by kernel_rfl)]
          go_simp
          go_wp2_with fail
          refine (lstate_any b _ (hHeld.ch.res (w.heap.size + 1, b) (by simp)).2 (len_mono LB.out (by omega))).mono ?_
          rintro e W3 ⟨y, rfl, okr, hnr, hqr, hb⟩
          try have FY4 := hid (off_new hnr HP4.out.lt)
          try have FY5 := hid (off_new hnr HP5.out.lt)
          try replace OX := hid (OX.out.on hb)
          try replace OY := hid (OY.out.on hb)
          try replace HP4 := hid (HP4.out.on hb)
          try replace HP5 := hid (HP5.out.on hb)
          have OY := hid okr
          have QY := hid hqr
          replace HWS := hid (Nat.le_trans HWS.out hb.size)
          have hM := hHeld.on hb
          refine hK.out _ _ hM (fun _ => ?_)
          clear hK K hHeld hb okr hqr hnr
          have hHeld := hM
          clear hM
          try simp only [Act.put, List.setIfInBounds_toArray, List.set_cons_zero, List.set_cons_succ]
          refine wpAnyG_ready (rs := [5]) (by kernel_rfl) (by simp) ?_
          refine AllReadyG.cons (o := { dst := some 10, op := Op.alloc 26, type := 0, pos := "law.go:27", after := #[], guard := none }) (by kernel_rfl) (fun K hK => ?_) AllReadyG.nil
          rw [if_pos (by kernel_rfl)]
          have hb := bel_new W3 (.cells #[.bool false, .int .i64 0, .slice none 0 0, .slice none 0 0, .bool false, .bool false, .slice none 0 0, .bool false, .slice none 0 0, .slice none 0 0] 26)
          have hM := hHeld.on hb
          have hk : Bs _ W3.heap.size sx0 := bs_new W3 sx0
          have hP0 : wc.heap.size ≤ W3.heap.size := HWS.out
          try have FX5 := hid (off_old OX.out (Nat.le_refl W3.heap.size))
          try have FY5 := hid (off_old OY.out (Nat.le_refl W3.heap.size))
          try have NE : Hid (P4 ≠ W3.heap.size) := (fun e => by have := HP4.out.lt; omega)
          try replace OX := hid (OX.out.on hb)
          try replace OY := hid (OY.out.on hb)
          try replace HP4 := hid (HP4.out.on hb)
          try replace HP5 := hid (HP5.out.on hb)
          have hws2 := Nat.le_trans HWS.out hb.size
          go_simp
          refine hK.out _ _ hM (fun _ => ?_)
          clear hK K hHeld
          obtain ⟨P5, hPP⟩ : ∃ P, P = W3.heap.size := ⟨_, rfl⟩
          rw [← hPP] at hk hP0 ⊢
          try rw [← hPP] at FX5
          try rw [← hPP] at FY5
          try rw [← hPP] at NE
          have HP5 := hid hk
          have HZ5 := hid hP0
          clear hPP hk hP0
          change Hid (Bs (W3.alloc (.cells #[.bool false, .int .i64 0, .slice none 0 0, .slice none 0 0, .bool false, .bool false, .slice none 0 0, .bool false, .slice none 0 0, .slice none 0 0] 26)) P5 sx0) at HP5
          generalize W3.alloc (.cells #[.bool false, .int .i64 0, .slice none 0 0, .slice none 0 0, .bool false, .bool false, .slice none 0 0, .bool false, .slice none 0 0, .slice none 0 0] 26) = W5 at *
          replace HWS := hid hws2
          have hHeld := hM
          clear hM hb hws2
          try simp only [Act.put, List.setIfInBounds_toArray, List.set_cons_zero, List.set_cons_succ]
          have hG := hHeld
          clear hHeld
          have hHeld : True := trivial
          refine wpAnyG_gateOp (og := { dst := none, op := Op.store 26 (Operand.tmp 9) (Operand.tmp 30), type := 0, pos := "law.go:27", after := #[{ on := 4, ground := Ground.data }, { on := 1, ground := Ground.data }, { on := 3, ground := Ground.chain }, { on := 0, ground := Ground.phase }, { on := 1, ground := Ground.phase }, { on := 2, ground := Ground.textOnly Departure.lateStores }, { on := 3, ground := Ground.textOnly Departure.lateStoresUnsure }, { on := 4, ground := Ground.phase }, { on := 5, ground := Ground.phase }], guard := none }) (by kernel_rfl) (by kernel_rfl) (fun K hK => ?_)
          rw [if_pos (by kernel_rfl)]
          obtain ⟨za, zb, zc, zd, ze, zf, zg, zh, zi, zj⟩ := HP4.out.all
          dsimp only [sx0, sl0] at za zb zc zd ze zf zg zh zi zj
          have fz := HP4.out.fz
          have hne : P4 ≠ P5 := (by first | exact NE.out | exact Ne.symm NE.out)
          have hQ := hG.push (HC.out.off HZ4.out) HP4.out OX.out FX4.out
          have HY6 := hid (OY.out.kpo FY4.out (kp_stz W5 P4 x))
          have HP6 := hid (bs_other_stz HP5.out (Ne.symm hne) x)
          go_simp
          refine hK.out _ _ trivial (fun _ => ?_)
          clear hK K fz za zb zc zd ze zf zg zh zi zj HP5 OY OX HP4
          change wpAnyH _ _ _ _ _ _ _ _ (stz W5 P4 x)
          generalize stz W5 P4 x = W6 at *
          try simp only [Act.put, List.setIfInBounds_toArray, List.set_cons_zero, List.set_cons_succ]
          refine wpAnyH_ready (rs := [7]) (by kernel_rfl) (by simp) ?_
          refine AllReadyH.cons (o := { dst := none, op := Op.store 26 (Operand.tmp 10) (Operand.tmp 32), type := 0, pos := "law.go:27", after := #[{ on := 5, ground := Ground.data }, { on := 3, ground := Ground.data }, { on := 6, ground := Ground.chain }, { on := 0, ground := Ground.phase }, { on := 1, ground := Ground.phase }, { on := 2, ground := Ground.phase }, { on := 3, ground := Ground.phase }, { on := 4, ground := Ground.phase }, { on := 5, ground := Ground.phase }, { on := 6, ground := Ground.phase }], guard := none }) (by kernel_rfl) (fun K hK => ?_) AllReadyH.nil
          rw [if_pos (by kernel_rfl)]
          obtain ⟨za, zb, zc, zd, ze, zf, zg, zh, zi, zj⟩ := HP6.out.all
          dsimp only [sx0, sl0] at za zb zc zd ze zf zg zh zi zj
          have fz := HP6.out.fz
          have hQ2 := hQ.push ((HC.out.off HZ5.out).cons hne FX5.out) HP6.out HY6.out FY5.out
          go_simp
          refine hK.out _ _ trivial (fun _ => ?_)
          clear hK K
          try simp only [Act.put, List.setIfInBounds_toArray, List.set_cons_zero, List.set_cons_succ]
          refine wpAnyH_done (by kernel_rfl) ?_ _
          go_wp2_with fail
          go_meet
          exact ⟨P4, P5, x, y, rfl, rfl, hQ2, QX.out, QY.out⟩
        refine AllReadyG.cons (o := { dst := some 10, op := Op.alloc 26, type := 0, pos := "law.go:27", after := #[], guard := none }) (by kernel_rfl) (fun K hK => ?_) ?_
        · rw [if_pos (by kernel_rfl)]
          have hb := bel_new W4 (.cells #[.bool false, .int .i64 0, .slice none 0 0, .slice none 0 0, .bool false, .bool false, .slice none 0 0, .bool false, .slice none 0 0, .slice none 0 0] 26)
          have hM := hHeld.on hb
          have hk : Bs _ W4.heap.size sx0 := bs_new W4 sx0
          have hP0 : wc.heap.size ≤ W4.heap.size := HWS.out
          try have FX5 := hid (off_old OX.out (Nat.le_refl W4.heap.size))
          try have FY5 := hid (off_old OY.out (Nat.le_refl W4.heap.size))
          try have NE : Hid (P4 ≠ W4.heap.size) := (fun e => by have := HP4.out.lt; omega)
          try replace OX := hid (OX.out.on hb)
          try replace OY := hid (OY.out.on hb)
          try replace HP4 := hid (HP4.out.on hb)
          try replace HP5 := hid (HP5.out.on hb)
          have hws2 := Nat.le_trans HWS.out hb.size
          go_simp
          refine hK.out _ _ hM (fun _ => ?_)
          clear hK K hHeld
          obtain ⟨P5, hPP⟩ : ∃ P, P = W4.heap.size := ⟨_, rfl⟩
          rw [← hPP] at hk hP0 ⊢
          try rw [← hPP] at FX5
          try rw [← hPP] at FY5
          try rw [← hPP] at NE
          have HP5 := hid hk
          have HZ5 := hid hP0
          clear hPP hk hP0
          change Hid (Bs (W4.alloc (.cells #[.bool false, .int .i64 0, .slice none 0 0, .slice none 0 0, .bool false, .bool false, .slice none 0 0, .bool false, .slice none 0 0, .slice none 0 0] 26)) P5 sx0) at HP5
          generalize W4.alloc (.cells #[.bool false, .int .i64 0, .slice none 0 0, .slice none 0 0, .bool false, .bool false, .slice none 0 0, .bool false, .slice none 0 0, .slice none 0 0] 26) = W5 at *
          replace HWS := hid hws2
          have hHeld := hM
          clear hM hb hws2
          try simp only [Act.put, List.setIfInBounds_toArray, List.set_cons_zero, List.set_cons_succ]
          refine wpAnyG_ready (rs := [3]) (by kernel_rfl) (by simp) ?_
          refine AllReadyG.cons (o := { dst := some 32, op := Op.call { callee := Callee.value (Operand.func 9), args := #[Operand.tmp 31], argTypes := #[26] }, type := 26, pos := "law.go:27", after := #[{ on := 2, ground := Ground.data }, { on := 1, ground := Ground.chain }], guard := none }) (by kernel_rfl) (fun K hK => ?_) AllReadyG.nil
          rw [if_pos (by kernel_rfl)]
          go_simp
          go_wp2_with fail
          refine (lstate_any b _ (hHeld.ch.res (w.heap.size + 1, b) (by simp)).2 (len_mono LB.out (by omega))).mono ?_
          rintro e W3 ⟨y, rfl, okr, hnr, hqr, hb⟩
          try have FY4 := hid (off_new hnr HP4.out.lt)
          try have FY5 := hid (off_new hnr HP5.out.lt)
          try replace OX := hid (OX.out.on hb)
          try replace OY := hid (OY.out.on hb)
          try replace HP4 := hid (HP4.out.on hb)
          try replace HP5 := hid (HP5.out.on hb)
          have OY := hid okr
          have QY := hid hqr
          replace HWS := hid (Nat.le_trans HWS.out hb.size)
          have hM := hHeld.on hb
          refine hK.out _ _ hM (fun _ => ?_)
          clear hK K hHeld hb okr hqr hnr
          have hHeld := hM
          clear hM
          try simp only [Act.put, List.setIfInBounds_toArray, List.set_cons_zero, List.set_cons_succ]
          have hG := hHeld
          clear hHeld
          have hHeld : True := trivial
          refine wpAnyG_gateOp (og := { dst := none, op := Op.store 26 (Operand.tmp 9) (Operand.tmp 30), type := 0, pos := "law.go:27", after := #[{ on := 4, ground := Ground.data }, { on := 1, ground := Ground.data }, { on := 3, ground := Ground.chain }, { on := 0, ground := Ground.phase }, { on := 1, ground := Ground.phase }, { on := 2, ground := Ground.textOnly Departure.lateStores }, { on := 3, ground := Ground.textOnly Departure.lateStoresUnsure }, { on := 4, ground := Ground.phase }, { on := 5, ground := Ground.phase }], guard := none }) (by kernel_rfl) (by kernel_rfl) (fun K hK => ?_)
          rw [if_pos (by kernel_rfl)]
          obtain ⟨za, zb, zc, zd, ze, zf, zg, zh, zi, zj⟩ := HP4.out.all
          dsimp only [sx0, sl0] at za zb zc zd ze zf zg zh zi zj
          have fz := HP4.out.fz
          have hne : P4 ≠ P5 := (by first | exact NE.out | exact Ne.symm NE.out)
          have hQ := hG.push (HC.out.off HZ4.out) HP4.out OX.out FX4.out
          have HY6 := hid (OY.out.kpo FY4.out (kp_stz W3 P4 x))
          have HP6 := hid (bs_other_stz HP5.out (Ne.symm hne) x)
          go_simp
          refine hK.out _ _ trivial (fun _ => ?_)
          clear hK K fz za zb zc zd ze zf zg zh zi zj HP5 OY OX HP4
          change wpAnyH _ _ _ _ _ _ _ _ (stz W3 P4 x)
          generalize stz W3 P4 x = W6 at *
          try simp only [Act.put, List.setIfInBounds_toArray, List.set_cons_zero, List.set_cons_succ]
          refine wpAnyH_ready (rs := [7]) (by kernel_rfl) (by simp) ?_
          refine AllReadyH.cons (o := { dst := none, op := Op.store 26 (Operand.tmp 10) (Operand.tmp 32), type := 0, pos := "law.go:27", after := #[{ on := 5, ground := Ground.data }, { on := 3, ground := Ground.data }, { on := 6, ground := Ground.chain }, { on := 0, ground := Ground.phase }, { on := 1, ground := Ground.phase }, { on := 2, ground := Ground.phase }, { on := 3, ground := Ground.phase }, { on := 4, ground := Ground.phase }, { on := 5, ground := Ground.phase }, { on := 6, ground := Ground.phase }], guard := none }) (by kernel_rfl) (fun K hK => ?_) AllReadyH.nil
          rw [if_pos (by kernel_rfl)]
          obtain ⟨za, zb, zc, zd, ze, zf, zg, zh, zi, zj⟩ := HP6.out.all
          dsimp only [sx0, sl0] at za zb zc zd ze zf zg zh zi zj
          have fz := HP6.out.fz
          have hQ2 := hQ.push ((HC.out.off HZ5.out).cons hne FX5.out) HP6.out HY6.out FY5.out
          go_simp
          refine hK.out _ _ trivial (fun _ => ?_)
          clear hK K
          try simp only [Act.put, List.setIfInBounds_toArray, List.set_cons_zero, List.set_cons_succ]
          refine wpAnyH_done (by kernel_rfl) ?_ _
          go_wp2_with fail
          go_meet
          exact ⟨P4, P5, x, y, rfl, rfl, hQ2, QX.out, QY.out⟩
        exact AllReadyG.nil
      refine AllReadyG.cons (o := { dst := some 10, op := Op.alloc 26, type := 0, pos := "law.go:27", after := #[], guard := none }) (by kernel_rfl) (fun K hK => ?_) ?_
      · rw [if_pos (by kernel_rfl)]
        have hb := bel_new W1 (.cells #[.bool false, .int .i64 0, .slice none 0 0, .slice none 0 0, .bool false, .bool false, .slice none 0 0, .bool false, .slice none 0 0, .slice none 0 0] 26)
        have hM := hHeld.on hb
        have hk : Bs _ W1.heap.size sx0 := bs_new W1 sx0
        have hP0 : wc.heap.size ≤ W1.heap.size := HWS.out
        try have FX5 := hid (off_old OX.out (Nat.le_refl W1.heap.size))
        try have FY5 := hid (off_old OY.out (Nat.le_refl W1.heap.size))
        try have NE : Hid (P4 ≠ W1.heap.size) := (fun e => by have := HP4.out.lt; omega)
        try replace OX := hid (OX.out.on hb)
        try replace OY := hid (OY.out.on hb)
        try replace HP4 := hid (HP4.out.on hb)
        try replace HP5 := hid (HP5.out.on hb)
        have hws2 := Nat.le_trans HWS.out hb.size
        go_simp
        refine hK.out _ _ hM (fun _ => ?_)
        clear hK K hHeld
        obtain ⟨P5, hPP⟩ : ∃ P, P = W1.heap.size := ⟨_, rfl⟩
        rw [← hPP] at hk hP0 ⊢
        try rw [← hPP] at FX5
        try rw [← hPP] at FY5
        try rw [← hPP] at NE
        have HP5 := hid hk
        have HZ5 := hid hP0
        clear hPP hk hP0
        change Hid (Bs (W1.alloc (.cells #[.bool false, .int .i64 0, .slice none 0 0, .slice none 0 0, .bool false, .bool false, .slice none 0 0, .bool false, .slice none 0 0, .slice none 0 0] 26)) P5 sx0) at HP5
        generalize W1.alloc (.cells #[.bool false, .int .i64 0, .slice none 0 0, .slice none 0 0, .bool false, .bool false, .slice none 0 0, .bool false, .slice none 0 0, .slice none 0 0] 26) = W5 at *
        replace HWS := hid hws2
        have hHeld := hM
        clear hM hb hws2
        try simp only [Act.put, List.setIfInBounds_toArray, List.set_cons_zero, List.set_cons_succ]
        refine wpAnyG_ready (rs := [3, 4]) (by kernel_rfl) (by simp) ?_
        refine AllReadyG.cons (o := { dst := some 32, op := Op.call { callee := Callee.value (Operand.func 9), args := #[Operand.tmp 31], argTypes := #[26] }, type := 26, pos := "law.go:27", after := #[{ on := 2, ground := Ground.data }, { on := 1, ground := Ground.chain }], guard := none }) (by kernel_rfl) (fun K hK => ?_) ?_
        · rw [if_pos (by kernel_rfl)]
          go_simp
          go_wp2_with fail
          refine (lstate_any b _ (hHeld.ch.res (w.heap.size + 1, b) (by simp)).2 (len_mono LB.out (by omega))).mono ?_
          rintro e W3 ⟨y, rfl, okr, hnr, hqr, hb⟩
          try have FY4 := hid (off_new hnr HP4.out.lt)
          try have FY5 := hid (off_new hnr HP5.out.lt)
          try replace OX := hid (OX.out.on hb)
          try replace OY := hid (OY.out.on hb)
          try replace HP4 := hid (HP4.out.on hb)
          try replace HP5 := hid (HP5.out.on hb)
          have OY := hid okr
          have QY := hid hqr
          replace HWS := hid (Nat.le_trans HWS.out hb.size)
          have hM := hHeld.on hb
          refine hK.out _ _ hM (fun _ => ?_)
          clear hK K hHeld hb okr hqr hnr
          have hHeld := hM
          clear hM
          try simp only [Act.put, List.setIfInBounds_toArray, List.set_cons_zero, List.set_cons_succ]
          refine wpAnyG_ready (rs := [4]) (by kernel_rfl) (by simp) ?_
          refine AllReadyG.cons (o := { dst := some 9, op := Op.alloc 26, type := 0, pos := "law.go:27", after := #[], guard := none }) (by kernel_rfl) (fun K hK => ?_) AllReadyG.nil
          rw [if_pos (by kernel_rfl)]
          have hb := bel_new W3 (.cells #[.bool false, .int .i64 0, .slice none 0 0, .slice none 0 0, .bool false, .bool false, .slice none 0 0, .bool false, .slice none 0 0, .slice none 0 0] 26)
          have hM := hHeld.on hb
          have hk : Bs _ W3.heap.size sx0 := bs_new W3 sx0
          have hP0 : wc.heap.size ≤ W3.heap.size := HWS.out
          try have FX4 := hid (off_old OX.out (Nat.le_refl W3.heap.size))
          try have FY4 := hid (off_old OY.out (Nat.le_refl W3.heap.size))
          try have NE : Hid (P5 ≠ W3.heap.size) := (fun e => by have := HP5.out.lt; omega)
          try replace OX := hid (OX.out.on hb)
          try replace OY := hid (OY.out.on hb)
          try replace HP4 := hid (HP4.out.on hb)
          try replace HP5 := hid (HP5.out.on hb)
          have hws2 := Nat.le_trans HWS.out hb.size
          go_simp
          refine hK.out _ _ hM (fun _ => ?_)
          clear hK K hHeld
          obtain ⟨P4, hPP⟩ : ∃ P, P = W3.heap.size := ⟨_, rfl⟩
          rw [← hPP] at hk hP0 ⊢
          try rw [← hPP] at FX4
          try rw [← hPP] at FY4
          try rw [← hPP] at NE
          have HP4 := hid hk
          have HZ4 := hid hP0
          clear hPP hk hP0
          change Hid (Bs (W3.alloc (.cells #[.bool false, .int .i64 0, .slice none 0 0, .slice none 0 0, .bool false, .bool false, .slice none 0 0, .bool false, .slice none 0 0, .slice none 0 0] 26)) P4 sx0) at HP4
          generalize W3.alloc (.cells #[.bool false, .int .i64 0, .slice none 0 0, .slice none 0 0, .bool false, .bool false, .slice none 0 0, .bool false, .slice none 0 0, .slice none 0 0] 26) = W4 at *
          replace HWS := hid hws2
          have hHeld := hM
          clear hM hb hws2
          try simp only [Act.put, List.setIfInBounds_toArray, List.set_cons_zero, List.set_cons_succ]
          have hG := hHeld
          clear hHeld
          have hHeld : True := trivial
          refine wpAnyG_gateOp (og := { dst := none, op := Op.store 26 (Operand.tmp 9) (Operand.tmp 30), type := 0, pos := "law.go:27", after := #[{ on := 4, ground := Ground.data }, { on := 1, ground := Ground.data }, { on := 3, ground := Ground.chain }, { on := 0, ground := Ground.phase }, { on := 1, ground := Ground.phase }, { on := 2, ground := Ground.textOnly Departure.lateStores }, { on := 3, ground := Ground.textOnly Departure.lateStoresUnsure }, { on := 4, ground := Ground.phase }, { on := 5, ground := Ground.phase }], guard := none }) (by kernel_rfl) (by kernel_rfl) (fun K hK => ?_)
          rw [if_pos (by kernel_rfl)]
          obtain ⟨za, zb, zc, zd, ze, zf, zg, zh, zi, zj⟩ := HP4.out.all
          dsimp only [sx0, sl0] at za zb zc zd ze zf zg zh zi zj
          have fz := HP4.out.fz
          have hne : P4 ≠ P5 := (by first | exact NE.out | exact Ne.symm NE.out)
          have hQ := hG.push (HC.out.off HZ4.out) HP4.out OX.out FX4.out
          have HY6 := hid (OY.out.kpo FY4.out (kp_stz W4 P4 x))
          have HP6 := hid (bs_other_stz HP5.out (Ne.symm hne) x)
          go_simp
          refine hK.out _ _ trivial (fun _ => ?_)
          clear hK K fz za zb zc zd ze zf zg zh zi zj HP5 OY OX HP4
          change wpAnyH _ _ _ _ _ _ _ _ (stz W4 P4 x)
          generalize stz W4 P4 x = W6 at *
          try simp only [Act.put, List.setIfInBounds_toArray, List.set_cons_zero, List.set_cons_succ]
          refine wpAnyH_ready (rs := [7]) (by kernel_rfl) (by simp) ?_
          refine AllReadyH.cons (o := { dst := none, op := Op.store 26 (Operand.tmp 10) (Operand.tmp 32), type := 0, pos := "law.go:27", after := #[{ on := 5, ground := Ground.data }, { on := 3, ground := Ground.data }, { on := 6, ground := Ground.chain }, { on := 0, ground := Ground.phase }, { on := 1, ground := Ground.phase }, { on := 2, ground := Ground.phase }, { on := 3, ground := Ground.phase }, { on := 4, ground := Ground.phase }, { on := 5, ground := Ground.phase }, { on := 6, ground := Ground.phase }], guard := none }) (by kernel_rfl) (fun K hK => ?_) AllReadyH.nil
          rw [if_pos (by kernel_rfl)]
          obtain ⟨za, zb, zc, zd, ze, zf, zg, zh, zi, zj⟩ := HP6.out.all
          dsimp only [sx0, sl0] at za zb zc zd ze zf zg zh zi zj
          have fz := HP6.out.fz
          have hQ2 := hQ.push ((HC.out.off HZ5.out).cons hne FX5.out) HP6.out HY6.out FY5.out
          go_simp
          refine hK.out _ _ trivial (fun _ => ?_)
          clear hK K
          try simp only [Act.put, List.setIfInBounds_toArray, List.set_cons_zero, List.set_cons_succ]
          refine wpAnyH_done (by kernel_rfl) ?_ _
          go_wp2_with fail
          go_meet
          exact ⟨P4, P5, x, y, rfl, rfl, hQ2, QX.out, QY.out⟩
        refine AllReadyG.cons (o := { dst := some 9, op := Op.alloc 26, type := 0, pos := "law.go:27", after := #[], guard := none }) (by kernel_rfl) (fun K hK => ?_) ?_
        · rw [if_pos (by kernel_rfl)]
          have hb := bel_new W5 (.cells #[.bool false, .int .i64 0, .slice none 0 0, .slice none 0 0, .bool false, .bool false, .slice none 0 0, .bool false, .slice none 0 0, .slice none 0 0] 26)
          have hM := hHeld.on hb
          have hk : Bs _ W5.heap.size sx0 := bs_new W5 sx0
          have hP0 : wc.heap.size ≤ W5.heap.size := HWS.out
          try have FX4 := hid (off_old OX.out (Nat.le_refl W5.heap.size))
          try have FY4 := hid (off_old OY.out (Nat.le_refl W5.heap.size))
          try have NE : Hid (P5 ≠ W5.heap.size) := (fun e => by have := HP5.out.lt; omega)
          try replace OX := hid (OX.out.on hb)
          try replace OY := hid (OY.out.on hb)
          try replace HP4 := hid (HP4.out.on hb)
          try replace HP5 := hid (HP5.out.on hb)
          have hws2 := Nat.le_trans HWS.out hb.size
          go_simp
          refine hK.out _ _ hM (fun _ => ?_)
          clear hK K hHeld
          obtain ⟨P4, hPP⟩ : ∃ P, P = W5.heap.size := ⟨_, rfl⟩
          rw [← hPP] at hk hP0 ⊢
          try rw [← hPP] at FX4
          try rw [← hPP] at FY4
          try rw [← hPP] at NE
          have HP4 := hid hk
          have HZ4 := hid hP0
          clear hPP hk hP0
          change Hid (Bs (W5.alloc (.cells #[.bool false, .int .i64 0, .slice none 0 0, .slice none 0 0, .bool false, .bool false, .slice none 0 0, .bool false, .slice none 0 0, .slice none 0 0] 26)) P4 sx0) at HP4
          generalize W5.alloc (.cells #[.bool false, .int .i64 0, .slice none 0 0, .slice none 0 0, .bool false, .bool false, .slice none 0 0, .bool false, .slice none 0 0, .slice none 0 0] 26) = W4 at *
          replace HWS := hid hws2
          have hHeld := hM
          clear hM hb hws2
          try simp only [Act.put, List.setIfInBounds_toArray, List.set_cons_zero, List.set_cons_succ]
          refine wpAnyG_ready (rs := [3]) (by kernel_rfl) (by simp) ?_
          refine AllReadyG.cons (o := { dst := some 32, op := Op.call { callee := Callee.value (Operand.func 9), args := #[Operand.tmp 31], argTypes := #[26] }, type := 26, pos := "law.go:27", after := #[{ on := 2, ground := Ground.data }, { on := 1, ground := Ground.chain }], guard := none }) (by kernel_rfl) (fun K hK => ?_) AllReadyG.nil
          rw [if_pos (by kernel_rfl)]
          go_simp
          go_wp2_with fail
          refine (lstate_any b _ (hHeld.ch.res (w.heap.size + 1, b) (by simp)).2 (len_mono LB.out (by omega))).mono ?_
          rintro e W3 ⟨y, rfl, okr, hnr, hqr, hb⟩
          try have FY4 := hid (off_new hnr HP4.out.lt)
          try have FY5 := hid (off_new hnr HP5.out.lt)
          try replace OX := hid (OX.out.on hb)
          try replace OY := hid (OY.out.on hb)
          try replace HP4 := hid (HP4.out.on hb)
          try replace HP5 := hid (HP5.out.on hb)
          have OY := hid okr
          have QY := hid hqr
          replace HWS := hid (Nat.le_trans HWS.out hb.size)
          have hM := hHeld.on hb
          refine hK.out _ _ hM (fun _ => ?_)
          clear hK K hHeld hb okr hqr hnr
          have hHeld := hM
          clear hM
          try simp only [Act.put, List.setIfInBounds_toArray, List.set_cons_zero, List.set_cons_succ]
          have hG := hHeld
          clear hHeld
          have hHeld : True := trivial
          refine wpAnyG_gateOp (og := { dst := none, op := Op.store 26 (Operand.tmp 9) (Operand.tmp 30), type := 0, pos := "law.go:27", after := #[{ on := 4, ground := Ground.data }, { on := 1, ground := Ground.data }, { on := 3, ground := Ground.chain }, { on := 0, ground := Ground.phase }, { on := 1, ground := Ground.phase }, { on := 2, ground := Ground.textOnly Departure.lateStores }, { on := 3, ground := Ground.textOnly Departure.lateStoresUnsure }, { on := 4, ground := Ground.phase }, { on := 5, ground := Ground.phase }], guard := none }) (by kernel_rfl) (by kernel_rfl) (fun K hK => ?_)
          rw [if_pos (by kernel_rfl)]
          obtain ⟨za, zb, zc, zd, ze, zf, zg, zh, zi, zj⟩ := HP4.out.all
          dsimp only [sx0, sl0] at za zb zc zd ze zf zg zh zi zj
          have fz := HP4.out.fz
          have hne : P4 ≠ P5 := (by first | exact NE.out | exact Ne.symm NE.out)
          have hQ := hG.push (HC.out.off HZ4.out) HP4.out OX.out FX4.out
          have HY6 := hid (OY.out.kpo FY4.out (kp_stz W3 P4 x))
          have HP6 := hid (bs_other_stz HP5.out (Ne.symm hne) x)
          go_simp
          refine hK.out _ _ trivial (fun _ => ?_)
          clear hK K fz za zb zc zd ze zf zg zh zi zj HP5 OY OX HP4
          change wpAnyH _ _ _ _ _ _ _ _ (stz W3 P4 x)
          generalize stz W3 P4 x = W6 at *
          try simp only [Act.put, List.setIfInBounds_toArray, List.set_cons_zero, List.set_cons_succ]
          refine wpAnyH_ready (rs := [7]) (by kernel_rfl) (by simp) ?_
          refine AllReadyH.cons (o := { dst := none, op := Op.store 26 (Operand.tmp 10) (Operand.tmp 32), type := 0, pos := "law.go:27", after := #[{ on := 5, ground := Ground.data }, { on := 3, ground := Ground.data }, { on := 6, ground := Ground.chain }, { on := 0, ground := Ground.phase }, { on := 1, ground := Ground.phase }, { on := 2, ground := Ground.phase }, { on := 3, ground := Ground.phase }, { on := 4, ground := Ground.phase }, { on := 5, ground := Ground.phase }, { on := 6, ground := Ground.phase }], guard := none }) (by kernel_rfl) (fun K hK => ?_) AllReadyH.nil
          rw [if_pos (by kernel_rfl)]
          obtain ⟨za, zb, zc, zd, ze, zf, zg, zh, zi, zj⟩ := HP6.out.all
          dsimp only [sx0, sl0] at za zb zc zd ze zf zg zh zi zj
          have fz := HP6.out.fz
          have hQ2 := hQ.push ((HC.out.off HZ5.out).cons hne FX5.out) HP6.out HY6.out FY5.out
          go_simp
          refine hK.out _ _ trivial (fun _ => ?_)
          clear hK K
          try simp only [Act.put, List.setIfInBounds_toArray, List.set_cons_zero, List.set_cons_succ]
          refine wpAnyH_done (by kernel_rfl) ?_ _
          go_wp2_with fail
          go_meet
          exact ⟨P4, P5, x, y, rfl, rfl, hQ2, QX.out, QY.out⟩
        exact AllReadyG.nil
      exact AllReadyG.nil
    refine AllReadyG.cons (o := { dst := some 9, op := Op.alloc 26, type := 0, pos := "law.go:27", after := #[], guard := none }) (by kernel_rfl) (fun K hK => ?_) ?_
    · rw [if_pos (by kernel_rfl)]
      have hb := bel_new W0 (.cells #[.bool false, .int .i64 0, .slice none 0 0, .slice none 0 0, .bool false, .bool false, .slice none 0 0, .bool false, .slice none 0 0, .slice none 0 0] 26)
      have hM := hHeld.on hb
      have hk : Bs _ W0.heap.size sx0 := bs_new W0 sx0
      have hP0 : wc.heap.size ≤ W0.heap.size := HWS.out
      try have FX4 := hid (off_old OX.out (Nat.le_refl W0.heap.size))
      try have FY4 := hid (off_old OY.out (Nat.le_refl W0.heap.size))
      try have NE : Hid (P5 ≠ W0.heap.size) := (fun e => by have := HP5.out.lt; omega)
      try replace OX := hid (OX.out.on hb)
      try replace OY := hid (OY.out.on hb)
      try replace HP4 := hid (HP4.out.on hb)
      try replace HP5 := hid (HP5.out.on hb)
      have hws2 := Nat.le_trans HWS.out hb.size
      go_simp
      refine hK.out _ _ hM (fun _ => ?_)
      clear hK K hHeld
      obtain ⟨P4, hPP⟩ : ∃ P, P = W0.heap.size := ⟨_, rfl⟩
      rw [← hPP] at hk hP0 ⊢
      try rw [← hPP] at FX4
      try rw [← hPP] at FY4
      try rw [← hPP] at NE
      have HP4 := hid hk
      have HZ4 := hid hP0
      clear hPP hk hP0
      change Hid (Bs (W0.alloc (.cells #[.bool false, .int .i64 0, .slice none 0 0, .slice none 0 0, .bool false, .bool false, .slice none 0 0, .bool false, .slice none 0 0, .slice none 0 0] 26)) P4 sx0) at HP4
      generalize W0.alloc (.cells #[.bool false, .int .i64 0, .slice none 0 0, .slice none 0 0, .bool false, .bool false, .slice none 0 0, .bool false, .slice none 0 0, .slice none 0 0] 26) = W4 at *
      replace HWS := hid hws2
      have hHeld := hM
      clear hM hb hws2
      try simp only [Act.put, List.setIfInBounds_toArray, List.set_cons_zero, List.set_cons_succ]
      refine wpAnyG_ready (rs := [1, 5]) (by kernel_rfl) (by simp) ?_
      refine AllReadyG.cons (o := { dst := some 30, op := Op.call { callee := Callee.value (Operand.func 9), args := #[Operand.tmp 29], argTypes := #[26] }, type := 26, pos := "law.go:27", after := #[{ on := 0, ground := Ground.data }], guard := none }) (by kernel_rfl) (fun K hK => ?_) ?_
      · rw [if_pos (by kernel_rfl)]
        go_simp
        go_wp2_with fail
        refine (lstate_any a _ (hHeld.ch.res (w.heap.size, a) (by simp)).2 (len_mono LA.out (by omega))).mono ?_
        rintro e W1 ⟨x, rfl, okr, hnr, hqr, hb⟩
        try have FX4 := hid (off_new hnr HP4.out.lt)
        try have FX5 := hid (off_new hnr HP5.out.lt)
        try replace OX := hid (OX.out.on hb)
        try replace OY := hid (OY.out.on hb)
        try replace HP4 := hid (HP4.out.on hb)
        try replace HP5 := hid (HP5.out.on hb)
        have OX := hid okr
        have QX := hid hqr
        replace HWS := hid (Nat.le_trans HWS.out hb.size)
        have hM := hHeld.on hb
        refine hK.out _ _ hM (fun _ => ?_)
        clear hK K hHeld hb okr hqr hnr
        have hHeld := hM
        clear hM
        try simp only [Act.put, List.setIfInBounds_toArray, List.set_cons_zero, List.set_cons_succ]
        refine wpAnyG_ready (rs := [3, 5]) (by kernel_rfl) (by simp) ?_
        refine AllReadyG.cons (o := { dst := some 32, op := Op.call { callee := Callee.value (Operand.func 9), args := #[Operand.tmp 31], argTypes := #[26] }, type := 26, pos := "law.go:27", after := #[{ on := 2, ground := Ground.data }, { on := 1, ground := Ground.chain }], guard := none }) (by kernel_rfl) (fun K hK => ?_) ?_
        · rw [if_pos (by kernel_rfl)]
          go_simp
          go_wp2_with fail
          refine (lstate_any b _ (hHeld.ch.res (w.heap.size + 1, b) (by simp)).2 (len_mono LB.out (by omega))).mono ?_
          rintro e W3 ⟨y, rfl, okr, hnr, hqr, hb⟩
          try have FY4 := hid (off_new hnr HP4.out.lt)
          try have FY5 := hid (off_new hnr HP5.out.lt)
          try replace OX := hid (OX.out.on hb)
          try replace OY := hid (OY.out.on hb)
          try replace HP4 := hid (HP4.out.on hb)
          try replace HP5 := hid (HP5.out.on hb)
          have OY := hid okr
          have QY := hid hqr
          replace HWS := hid (Nat.le_trans HWS.out hb.size)
          have hM := hHeld.on hb
          refine hK.out _ _ hM (fun _ => ?_)
          clear hK K hHeld hb okr hqr hnr
          have hHeld := hM
          clear hM
          try simp only [Act.put, List.setIfInBounds_toArray, List.set_cons_zero, List.set_cons_succ]
          refine wpAnyG_ready (rs := [5]) (by kernel_rfl) (by simp) ?_
          refine AllReadyG.cons (o := { dst := some 10, op := Op.alloc 26, type := 0, pos := "law.go:27", after := #[], guard := none }) (by kernel_rfl) (fun K hK => ?_) AllReadyG.nil
          rw [if_pos (by kernel_rfl)]
          have hb := bel_new W3 (.cells #[.bool false, .int .i64 0, .slice none 0 0, .slice none 0 0, .bool false, .bool false, .slice none 0 0, .bool false, .slice none 0 0, .slice none 0 0] 26)
          have hM := hHeld.on hb
          have hk : Bs _ W3.heap.size sx0 := bs_new W3 sx0
          have hP0 : wc.heap.size ≤ W3.heap.size := HWS.out
          try have FX5 := hid (off_old OX.out (Nat.le_refl W3.heap.size))
          try have FY5 := hid (off_old OY.out (Nat.le_refl W3.heap.size))
          try have NE : Hid (P4 ≠ W3.heap.size) := (fun e => by have := HP4.out.lt; omega)
          try replace OX := hid (OX.out.on hb)
          try replace OY := hid (OY.out.on hb)
          try replace HP4 := hid (HP4.out.on hb)
          try replace HP5 := hid (HP5.out.on hb)
          have hws2 := Nat.le_trans HWS.out hb.size
          go_simp
          refine hK.out _ _ hM (fun _ => ?_)
          clear hK K hHeld
          obtain ⟨P5, hPP⟩ : ∃ P, P = W3.heap.size := ⟨_, rfl⟩
          rw [← hPP] at hk hP0 ⊢
          try rw [← hPP] at FX5
          try rw [← hPP] at FY5
          try rw [← hPP] at NE
          have HP5 := hid hk
          have HZ5 := hid hP0
          clear hPP hk hP0
          change Hid (Bs (W3.alloc (.cells #[.bool false, .int .i64 0, .slice none 0 0, .slice none 0 0, .bool false, .bool false, .slice none 0 0, .bool false, .slice none 0 0, .slice none 0 0] 26)) P5 sx0) at HP5
          generalize W3.alloc (.cells #[.bool false, .int .i64 0, .slice none 0 0, .slice none 0 0, .bool false, .bool false, .slice none 0 0, .bool false, .slice none 0 0, .slice none 0 0] 26) = W5 at *
          replace HWS := hid hws2
          have hHeld := hM
          clear hM hb hws2
          try simp only [Act.put, List.setIfInBounds_toArray, List.set_cons_zero, List.set_cons_succ]
          have hG := hHeld
          clear hHeld
          have hHeld : True := trivial
          refine wpAnyG_gateOp (og := { dst := none, op := Op.store 26 (Operand.tmp 9) (Operand.tmp 30), type := 0, pos := "law.go:27", after := #[{ on := 4, ground := Ground.data }, { on := 1, ground := Ground.data }, { on := 3, ground := Ground.chain }, { on := 0, ground := Ground.phase }, { on := 1, ground := Ground.phase }, { on := 2, ground := Ground.textOnly Departure.lateStores }, { on := 3, ground := Ground.textOnly Departure.lateStoresUnsure }, { on := 4, ground := Ground.phase }, { on := 5, ground := Ground.phase }], guard := none }) (by kernel_rfl) (by kernel_rfl) (fun K hK => ?_)
          rw [if_pos (by kernel_rfl)]
          obtain ⟨za, zb, zc, zd, ze, zf, zg, zh, zi, zj⟩ := HP4.out.all
          dsimp only [sx0, sl0] at za zb zc zd ze zf zg zh zi zj
          have fz := HP4.out.fz
          have hne : P4 ≠ P5 := (by first | exact NE.out | exact Ne.symm NE.out)
          have hQ := hG.push (HC.out.off HZ4.out) HP4.out OX.out FX4.out
          have HY6 := hid (OY.out.kpo FY4.out (kp_stz W5 P4 x))
          have HP6 := hid (bs_other_stz HP5.out (Ne.symm hne) x)
          go_simp
          refine hK.out _ _ trivial (fun _ => ?_)
          clear hK K fz za zb zc zd ze zf zg zh zi zj HP5 OY OX HP4
          change wpAnyH _ _ _ _ _ _ _ _ (stz W5 P4 x)
          generalize stz W5 P4 x = W6 at *
          try simp only [Act.put, List.setIfInBounds_toArray, List.set_cons_zero, List.set_cons_succ]
          refine wpAnyH_ready (rs := [7]) (by kernel_rfl) (by simp) ?_
          refine AllReadyH.cons (o := { dst := none, op := Op.store 26 (Operand.tmp 10) (Operand.tmp 32), type := 0, pos := "law.go:27", after := #[{ on := 5, ground := Ground.data }, { on := 3, ground := Ground.data }, { on := 6, ground := Ground.chain }, { on := 0, ground := Ground.phase }, { on := 1, ground := Ground.phase }, { on := 2, ground := Ground.phase }, { on := 3, ground := Ground.phase }, { on := 4, ground := Ground.phase }, { on := 5, ground := Ground.phase }, { on := 6, ground := Ground.phase }], guard := none }) (by kernel_rfl) (fun K hK => ?_) AllReadyH.nil
          rw [if_pos (by kernel_rfl)]
          obtain ⟨za, zb, zc, zd, ze, zf, zg, zh, zi, zj⟩ := HP6.out.all
          dsimp only [sx0, sl0] at za zb zc zd ze zf zg zh zi zj
          have fz := HP6.out.fz
          have hQ2 := hQ.push ((HC.out.off HZ5.out).cons hne FX5.out) HP6.out HY6.out FY5.out
          go_simp
          refine hK.out _ _ trivial (fun _ => ?_)
          clear hK K
          try simp only [Act.put, List.setIfInBounds_toArray, List.set_cons_zero, List.set_cons_succ]
          refine wpAnyH_done (by kernel_rfl) ?_ _
          go_wp2_with fail
          go_meet
          exact ⟨P4, P5, x, y, rfl, rfl, hQ2, QX.out, QY.out⟩
        refine AllReadyG.cons (o := { dst := some 10, op := Op.alloc 26, type := 0, pos := "law.go:27", after := #[], guard := none }) (by kernel_rfl) (fun K hK => ?_) ?_
        · rw [if_pos (by kernel_rfl)]
          have hb := bel_new W1 (.cells #[.bool false, .int .i64 0, .slice none 0 0, .slice none 0 0, .bool false, .bool false, .slice none 0 0, .bool false, .slice none 0 0, .slice none 0 0] 26)
          have hM := hHeld.on hb
          have hk : Bs _ W1.heap.size sx0 := bs_new W1 sx0
          have hP0 : wc.heap.size ≤ W1.heap.size := HWS.out
          try have FX5 := hid (off_old OX.out (Nat.le_refl W1.heap.size))
          try have FY5 := hid (off_old OY.out (Nat.le_refl W1.heap.size))
          try have NE : Hid (P4 ≠ W1.heap.size) := (fun e => by have := HP4.out.lt; omega)
          try replace OX := hid (OX.out.on hb)
          try replace OY := hid (OY.out.on hb)
          try replace HP4 := hid (HP4.out.on hb)
          try replace HP5 := hid (HP5.out.on hb)
          have hws2 := Nat.le_trans HWS.out hb.size
          go_simp
          refine hK.out _ _ hM (fun _ => ?_)
          clear hK K hHeld
          obtain ⟨P5, hPP⟩ : ∃ P, P = W1.heap.size := ⟨_, rfl⟩
          rw [← hPP] at hk hP0 ⊢
          try rw [← hPP] at FX5
          try rw [← hPP] at FY5
          try rw [← hPP] at NE
          have HP5 := hid hk
          have HZ5 := hid hP0
          clear hPP hk hP0
          change Hid (Bs (W1.alloc (.cells #[.bool false, .int .i64 0, .slice none 0 0, .slice none 0 0, .bool false, .bool false, .slice none 0 0, .bool false, .slice none 0 0, .slice none 0 0] 26)) P5 sx0) at HP5
          generalize W1.alloc (.cells #[.bool false, .int .i64 0, .slice none 0 0, .slice none 0 0, .bool false, .bool false, .slice none 0 0, .bool false, .slice none 0 0, .slice none 0 0] 26) = W5 at *
          replace HWS := hid hws2
          have hHeld := hM
          clear hM hb hws2
          try simp only [Act.put, List.setIfInBounds_toArray, List.set_cons_zero, List.set_cons_succ]
          refine wpAnyG_ready (rs := [3]) (by kernel_rfl) (by simp) ?_
          refine AllReadyG.cons (o := { dst := some 32, op := Op.call { callee := Callee.value (Operand.func 9), args := #[Operand.tmp 31], argTypes := #[26] }, type := 26, pos := "law.go:27", after := #[{ on := 2, ground := Ground.data }, { on := 1, ground := Ground.chain }], guard := none }) (by kernel_rfl) (fun K hK => ?_) AllReadyG.nil
          rw [if_pos (by kernel_rfl)]
          go_simp
          go_wp2_with fail
          refine (lstate_any b _ (hHeld.ch.res (w.heap.size + 1, b) (by simp)).2 (len_mono LB.out (by omega))).mono ?_
          rintro e W3 ⟨y, rfl, okr, hnr, hqr, hb⟩
          try have FY4 := hid (off_new hnr HP4.out.lt)
          try have FY5 := hid (off_new hnr HP5.out.lt)
          try replace OX := hid (OX.out.on hb)
          try replace OY := hid (OY.out.on hb)
          try replace HP4 := hid (HP4.out.on hb)
          try replace HP5 := hid (HP5.out.on hb)
          have OY := hid okr
          have QY := hid hqr
          replace HWS := hid (Nat.le_trans HWS.out hb.size)
          have hM := hHeld.on hb
          refine hK.out _ _ hM (fun _ => ?_)
          clear hK K hHeld hb okr hqr hnr
          have hHeld := hM
          clear hM
          try simp only [Act.put, List.setIfInBounds_toArray, List.set_cons_zero, List.set_cons_succ]
          have hG := hHeld
          clear hHeld
          have hHeld : True := trivial
          refine wpAnyG_gateOp (og := { dst := none, op := Op.store 26 (Operand.tmp 9) (Operand.tmp 30), type := 0, pos := "law.go:27", after := #[{ on := 4, ground := Ground.data }, { on := 1, ground := Ground.data }, { on := 3, ground := Ground.chain }, { on := 0, ground := Ground.phase }, { on := 1, ground := Ground.phase }, { on := 2, ground := Ground.textOnly Departure.lateStores }, { on := 3, ground := Ground.textOnly Departure.lateStoresUnsure }, { on := 4, ground := Ground.phase }, { on := 5, ground := Ground.phase }], guard := none }) (by kernel_rfl) (by kernel_rfl) (fun K hK => ?_)
          rw [if_pos (by kernel_rfl)]
          obtain ⟨za, zb, zc, zd, ze, zf, zg, zh, zi, zj⟩ := HP4.out.all
          dsimp only [sx0, sl0] at za zb zc zd ze zf zg zh zi zj
          have fz := HP4.out.fz
          have hne : P4 ≠ P5 := (by first | exact NE.out | exact Ne.symm NE.out)
          have hQ := hG.push (HC.out.off HZ4.out) HP4.out OX.out FX4.out
          have HY6 := hid (OY.out.kpo FY4.out (kp_stz W3 P4 x))
          have HP6 := hid (bs_other_stz HP5.out (Ne.symm hne) x)
          go_simp
          refine hK.out _ _ trivial (fun _ => ?_)
          clear hK K fz za zb zc zd ze zf zg zh zi zj HP5 OY OX HP4
          change wpAnyH _ _ _ _ _ _ _ _ (stz W3 P4 x)
          generalize stz W3 P4 x = W6 at *
          try simp only [Act.put, List.setIfInBounds_toArray, List.set_cons_zero, List.set_cons_succ]
          refine wpAnyH_ready (rs := [7]) (by kernel_rfl) (by simp) ?_
          refine AllReadyH.cons (o := { dst := none, op := Op.store 26 (Operand.tmp 10) (Operand.tmp 32), type := 0, pos := "law.go:27", after := #[{ on := 5, ground := Ground.data }, { on := 3, ground := Ground.data }, { on := 6, ground := Ground.chain }, { on := 0, ground := Ground.phase }, { on := 1, ground := Ground.phase }, { on := 2, ground := Ground.phase }, { on := 3, ground := Ground.phase }, { on := 4, ground := Ground.phase }, { on := 5, ground := Ground.phase }, { on := 6, ground := Ground.phase }], guard := none }) (by kernel_rfl) (fun K hK => ?_) AllReadyH.nil
          rw [if_pos (by kernel_rfl)]
          obtain ⟨za, zb, zc, zd, ze, zf, zg, zh, zi, zj⟩ := HP6.out.all
          dsimp only [sx0, sl0] at za zb zc zd ze zf zg zh zi zj
          have fz := HP6.out.fz
          have hQ2 := hQ.push ((HC.out.off HZ5.out).cons hne FX5.out) HP6.out HY6.out FY5.out
          go_simp
          refine hK.out _ _ trivial (fun _ => ?_)
          clear hK K
          try simp only [Act.put, List.setIfInBounds_toArray, List.set_cons_zero, List.set_cons_succ]
          refine wpAnyH_done (by kernel_rfl) ?_ _
          go_wp2_with fail
          go_meet
          exact ⟨P4, P5, x, y, rfl, rfl, hQ2, QX.out, QY.out⟩
        exact AllReadyG.nil
      refine AllReadyG.cons (o := { dst := some 10, op := Op.alloc 26, type := 0, pos := "law.go:27", after := #[], guard := none }) (by kernel_rfl) (fun K hK => ?_) ?_
      · rw [if_pos (by kernel_rfl)]
        have hb := bel_new W4 (.cells #[.bool false, .int .i64 0, .slice none 0 0, .slice none 0 0, .bool false, .bool false, .slice none 0 0, .bool false, .slice none 0 0, .slice none 0 0] 26)
        have hM := hHeld.on hb
        have hk : Bs _ W4.heap.size sx0 := bs_new W4 sx0
        have hP0 : wc.heap.size ≤ W4.heap.size := HWS.out
        try have FX5 := hid (off_old OX.out (Nat.le_refl W4.heap.size))
        try have FY5 := hid (off_old OY.out (Nat.le_refl W4.heap.size))
        try have NE : Hid (P4 ≠ W4.heap.size) := (fun e => by have := HP4.out.lt; omega)
        try replace OX := hid (OX.out.on hb)
        try replace OY := hid (OY.out.on hb)
        try replace HP4 := hid (HP4.out.on hb)
        try replace HP5 := hid (HP5.out.on hb)
        have hws2 := Nat.le_trans HWS.out hb.size
        go_simp
        refine hK.out _ _ hM (fun _ => ?_)
        clear hK K hHeld
        obtain ⟨P5, hPP⟩ : ∃ P, P = W4.heap.size := ⟨_, rfl⟩
        rw [← hPP] at hk hP0 ⊢
        try rw [← hPP] at FX5
        try rw [← hPP] at FY5
        try rw [← hPP] at NE
        have HP5 := hid hk
        have HZ5 := hid hP0
        clear hPP hk hP0
        change Hid (Bs (W4.alloc (.cells #[.bool false, .int .i64 0, .slice none 0 0, .slice none 0 0, .bool false, .bool false, .slice none 0 0, .bool false, .slice none 0 0, .slice none 0 0] 26)) P5 sx0) at HP5
        generalize W4.alloc (.cells #[.bool false, .int .i64 0, .slice none 0 0, .slice none 0 0, .bool false, .bool false, .slice none 0 0, .bool false, .slice none 0 0, .slice none 0 0] 26) = W5 at *
        replace HWS := hid hws2
        have hHeld := hM
        clear hM hb hws2
        try simp only [Act.put, List.setIfInBounds_toArray, List.set_cons_zero, List.set_cons_succ]
        refine wpAnyG_ready (rs := [1]) (by kernel_rfl) (by simp) ?_
        refine AllReadyG.cons (o := { dst := some 30, op := Op.call { callee := Callee.value (Operand.func 9), args := #[Operand.tmp 29], argTypes := #[26] }, type := 26, pos := "law.go:27", after := #[{ on := 0, ground := Ground.data }], guard := none }) (by kernel_rfl) (fun K hK => ?_) AllReadyG.nil
        rw [if_pos (by kernel_rfl)]
        go_simp
        go_wp2_with fail
        refine (lstate_any a _ (hHeld.ch.res (w.heap.size, a) (by simp)).2 (len_mono LA.out (by omega))).mono ?_
        rintro e W1 ⟨x, rfl, okr, hnr, hqr, hb⟩
        try have FX4 := hid (off_new hnr HP4.out.lt)
        try have FX5 := hid (off_new hnr HP5.out.lt)
        try replace OX := hid (OX.out.on hb)
        try replace OY := hid (OY.out.on hb)
        try replace HP4 := hid (HP4.out.on hb)
        try replace HP5 := hid (HP5.out.on hb)
        have OX := hid okr
        have QX := hid hqr
        replace HWS := hid (Nat.le_trans HWS.out hb.size)
        have hM := hHeld.on hb
        refine hK.out _ _ hM (fun _ => ?_)
        clear hK K hHeld hb okr hqr hnr
        have hHeld := hM
        clear hM
        try simp only [Act.put, List.setIfInBounds_toArray, List.set_cons_zero, List.set_cons_succ]
        refine wpAnyG_ready (rs := [3]) (by kernel_rfl) (by simp) ?_
        refine AllReadyG.cons (o := { dst := some 32, op := Op.call { callee := Callee.value (Operand.func 9), args := #[Operand.tmp 31], argTypes := #[26] }, type := 26, pos := "law.go:27", after := #[{ on := 2, ground := Ground.data }, { on := 1, ground := Ground.chain }], guard := none }) (by kernel_rfl) (fun K hK => ?_) AllReadyG.nil
        rw [if_pos (by kernel_rfl)]
        go_simp
        go_wp2_with fail
        refine (lstate_any b _ (hHeld.ch.res (w.heap.size + 1, b) (by simp)).2 (len_mono LB.out (by omega))).mono ?_
        rintro e W3 ⟨y, rfl, okr, hnr, hqr, hb⟩
        try have FY4 := hid (off_new hnr HP4.out.lt)
        try have FY5 := hid (off_new hnr HP5.out.lt)
        try replace OX := hid (OX.out.on hb)
        try replace OY := hid (OY.out.on hb)
        try replace HP4 := hid (HP4.out.on hb)
        try replace HP5 := hid (HP5.out.on hb)
        have OY := hid okr
        have QY := hid hqr
        replace HWS := hid (Nat.le_trans HWS.out hb.size)
        have hM := hHeld.on hb
        refine hK.out _ _ hM (fun _ => ?_)
        clear hK K hHeld hb okr hqr hnr
        have hHeld := hM
        clear hM
        try simp only [Act.put, List.setIfInBounds_toArray, List.set_cons_zero, List.set_cons_succ]
        have hG := hHeld
        clear hHeld
        have hHeld : True := trivial
        refine wpAnyG_gateOp (og := { dst := none, op := Op.store 26 (Operand.tmp 9) (Operand.tmp 30), type := 0, pos := "law.go:27", after := #[{ on := 4, ground := Ground.data }, { on := 1, ground := Ground.data }, { on := 3, ground := Ground.chain }, { on := 0, ground := Ground.phase }, { on := 1, ground := Ground.phase }, { on := 2, ground := Ground.textOnly Departure.lateStores }, { on := 3, ground := Ground.textOnly Departure.lateStoresUnsure }, { on := 4, ground := Ground.phase }, { on := 5, ground := Ground.phase }], guard := none }) (by kernel_rfl) (by kernel_rfl) (fun K hK => ?_)
        rw [if_pos (by kernel_rfl)]
        obtain ⟨za, zb, zc, zd, ze, zf, zg, zh, zi, zj⟩ := HP4.out.all
        dsimp only [sx0, sl0] at za zb zc zd ze zf zg zh zi zj
        have fz := HP4.out.fz
        have hne : P4 ≠ P5 := (by first | exact NE.out | exact Ne.symm NE.out)
        have hQ := hG.push (HC.out.off HZ4.out) HP4.out OX.out FX4.out
        have HY6 := hid (OY.out.kpo FY4.out (kp_stz W3 P4 x))
        have HP6 := hid (bs_other_stz HP5.out (Ne.symm hne) x)
        go_simp
        refine hK.out _ _ trivial (fun _ => ?_)
        clear hK K fz za zb zc zd ze zf zg zh zi zj HP5 OY OX HP4
        change wpAnyH _ _ _ _ _ _ _ _ (stz W3 P4 x)
        generalize stz W3 P4 x = W6 at *
        try simp only [Act.put, List.setIfInBounds_toArray, List.set_cons_zero, List.set_cons_succ]
        refine wpAnyH_ready (rs := [7]) (by kernel_rfl) (by simp) ?_
        refine AllReadyH.cons (o := { dst := none, op := Op.store 26 (Operand.tmp 10) (Operand.tmp 32), type := 0, pos := "law.go:27", after := #[{ on := 5, ground := Ground.data }, { on := 3, ground := Ground.data }, { on := 6, ground := Ground.chain }, { on := 0, ground := Ground.phase }, { on := 1, ground := Ground.phase }, { on := 2, ground := Ground.phase }, { on := 3, ground := Ground.phase }, { on := 4, ground := Ground.phase }, { on := 5, ground := Ground.phase }, { on := 6, ground := Ground.phase }], guard := none }) (by kernel_rfl) (fun K hK => ?_) AllReadyH.nil
        rw [if_pos (by kernel_rfl)]
        obtain ⟨za, zb, zc, zd, ze, zf, zg, zh, zi, zj⟩ := HP6.out.all
        dsimp only [sx0, sl0] at za zb zc zd ze zf zg zh zi zj
        have fz := HP6.out.fz
        have hQ2 := hQ.push ((HC.out.off HZ5.out).cons hne FX5.out) HP6.out HY6.out FY5.out
        go_simp
        refine hK.out _ _ trivial (fun _ => ?_)
        clear hK K
        try simp only [Act.put, List.setIfInBounds_toArray, List.set_cons_zero, List.set_cons_succ]
        refine wpAnyH_done (by kernel_rfl) ?_ _
        go_wp2_with fail
        go_meet
        exact ⟨P4, P5, x, y, rfl, rfl, hQ2, QX.out, QY.out⟩
      exact AllReadyG.nil
    refine AllReadyG.cons (o := { dst := some 10, op := Op.alloc 26, type := 0, pos := "law.go:27", after := #[], guard := none }) (by kernel_rfl) (fun K hK => ?_) ?_
    · rw [if_pos (by kernel_rfl)]
      have hb := bel_new W0 (.cells #[.bool false, .int .i64 0, .slice none 0 0, .slice none 0 0, .bool false, .bool false, .slice none 0 0, .bool false, .slice none 0 0, .slice none 0 0] 26)
      have hM := hHeld.on hb
      have hk : Bs _ W0.heap.size sx0 := bs_new W0 sx0
      have hP0 : wc.heap.size ≤ W0.heap.size := HWS.out
      try have FX5 := hid (off_old OX.out (Nat.le_refl W0.heap.size))
      try have FY5 := hid (off_old OY.out (Nat.le_refl W0.heap.size))
      try have NE : Hid (P4 ≠ W0.heap.size) := (fun e => by have := HP4.out.lt; omega)
      try replace OX := hid (OX.out.on hb)
      try replace OY := hid (OY.out.on hb)
      try replace HP4 := hid (HP4.out.on hb)
      try replace HP5 := hid (HP5.out.on hb)
      have hws2 := Nat.le_trans HWS.out hb.size
      go_simp
      refine hK.out _ _ hM (fun _ => ?_)
      clear hK K hHeld
      obtain ⟨P5, hPP⟩ : ∃ P, P = W0.heap.size := ⟨_, rfl⟩
      rw [← hPP] at hk hP0 ⊢
      try rw [← hPP] at FX5
      try rw [← hPP] at FY5
      try rw [← hPP] at NE
      have HP5 := hid hk
      have HZ5 := hid hP0
      clear hPP hk hP0
      change Hid (Bs (W0.alloc (.cells #[.bool false, .int .i64 0, .slice none 0 0, .slice none 0 0, .bool false, .bool false, .slice none 0 0, .bool false, .slice none 0 0, .slice none 0 0] 26)) P5 sx0) at HP5
      generalize W0.alloc (.cells #[.bool false, .int .i64 0, .slice none 0 0, .slice none 0 0, .bool false, .bool false, .slice none 0 0, .bool false, .slice none 0 0, .slice none 0 0] 26) = W5 at *
      replace HWS := hid hws2
      have hHeld := hM
      clear hM hb hws2
      try simp only [Act.put, List.setIfInBounds_toArray, List.set_cons_zero, List.set_cons_succ]
      refine wpAnyG_ready (rs := [1, 4]) (by kernel_rfl) (by simp) ?_
      refine AllReadyG.cons (o := { dst := some 30, op := Op.call { callee := Callee.value (Operand.func 9), args := #[Operand.tmp 29], argTypes := #[26] }, type := 26, pos := "law.go:27", after := #[{ on := 0, ground := Ground.data }], guard := none }) (by kernel_rfl) (fun K hK => ?_) ?_
      · rw [if_pos (by kernel_rfl)]
        go_simp
        go_wp2_with fail
        refine (lstate_any a _ (hHeld.ch.res (w.heap.size, a) (by simp)).2 (len_mono LA.out (by omega))).mono ?_
        rintro e W1 ⟨x, rfl, okr, hnr, hqr, hb⟩
        try have FX4 := hid (off_new hnr HP4.out.lt)
        try have FX5 := hid (off_new hnr HP5.out.lt)
        try replace OX := hid (OX.out.on hb)
        try replace OY := hid (OY.out.on hb)
        try replace HP4 := hid (HP4.out.on hb)
        try replace HP5 := hid (HP5.out.on hb)
        have OX := hid okr
        have QX := hid hqr
        replace HWS := hid (Nat.le_trans HWS.out hb.size)
        have hM := hHeld.on hb
        refine hK.out _ _ hM (fun _ => ?_)
        clear hK K hHeld hb okr hqr hnr
        have hHeld := hM
        clear hM
        try simp only [Act.put, List.setIfInBounds_toArray, List.set_cons_zero, List.set_cons_succ]
        refine wpAnyG_ready (rs := [3, 4]) (by kernel_rfl) (by simp) ?_
        refine AllReadyG.cons (o := { dst := some 32, op := Op.call { callee := Callee.value (Operand.func 9), args := #[Operand.tmp 31], argTypes := #[26] }, type := 26, pos := "law.go:27", after := #[{ on := 2, ground := Ground.data }, { on := 1, ground := Ground.chain }], guard := none }) (by kernel_rfl) (fun K hK => ?_) ?_
        · rw [if_pos (by kernel_rfl)]
          go_simp
          go_wp2_with fail
          refine (lstate_any b _ (hHeld.ch.res (w.heap.size + 1, b) (by simp)).2 (len_mono LB.out (by omega))).mono ?_
          rintro e W3 ⟨y, rfl, okr, hnr, hqr, hb⟩
          try have FY4 := hid (off_new hnr HP4.out.lt)
          try have FY5 := hid (off_new hnr HP5.out.lt)
          try replace OX := hid (OX.out.on hb)
          try replace OY := hid (OY.out.on hb)
          try replace HP4 := hid (HP4.out.on hb)
          try replace HP5 := hid (HP5.out.on hb)
          have OY := hid okr
          have QY := hid hqr
          replace HWS := hid (Nat.le_trans HWS.out hb.size)
          have hM := hHeld.on hb
          refine hK.out _ _ hM (fun _ => ?_)
          clear hK K hHeld hb okr hqr hnr
          have hHeld := hM
          clear hM
          try simp only [Act.put, List.setIfInBounds_toArray, List.set_cons_zero, List.set_cons_succ]
          refine wpAnyG_ready (rs := [4]) (by kernel_rfl) (by simp) ?_
          refine AllReadyG.cons (o := { dst := some 9, op := Op.alloc 26, type := 0, pos := "law.go:27", after := #[], guard := none }) (by kernel_rfl) (fun K hK => ?_) AllReadyG.nil
          rw [if_pos (by kernel_rfl)]
          have hb := bel_new W3 (.cells #[.bool false, .int .i64 0, .slice none 0 0, .slice none 0 0, .bool false, .bool false, .slice none 0 0, .bool false, .slice none 0 0, .slice none 0 0] 26)
          have hM := hHeld.on hb
          have hk : Bs _ W3.heap.size sx0 := bs_new W3 sx0
          have hP0 : wc.heap.size ≤ W3.heap.size := HWS.out
          try have FX4 := hid (off_old OX.out (Nat.le_refl W3.heap.size))
          try have FY4 := hid (off_old OY.out (Nat.le_refl W3.heap.size))
          try have NE : Hid (P5 ≠ W3.heap.size) := (fun e => by have := HP5.out.lt; omega)
          try replace OX := hid (OX.out.on hb)
          try replace OY := hid (OY.out.on hb)
          try replace HP4 := hid (HP4.out.on hb)
          try replace HP5 := hid (HP5.out.on hb)
          have hws2 := Nat.le_trans HWS.out hb.size
          go_simp
          refine hK.out _ _ hM (fun _ => ?_)
          clear hK K hHeld
          obtain ⟨P4, hPP⟩ : ∃ P, P = W3.heap.size := ⟨_, rfl⟩
          rw [← hPP] at hk hP0 ⊢
          try rw [← hPP] at FX4
          try rw [← hPP] at FY4
          try rw [← hPP] at NE
          have HP4 := hid hk
          have HZ4 := hid hP0
          clear hPP hk hP0
          change Hid (Bs (W3.alloc (.cells #[.bool false, .int .i64 0, .slice none 0 0, .slice none 0 0, .bool false, .bool false, .slice none 0 0, .bool false, .slice none 0 0, .slice none 0 0] 26)) P4 sx0) at HP4
          generalize W3.alloc (.cells #[.bool false, .int .i64 0, .slice none 0 0, .slice none 0 0, .bool false, .bool false, .slice none 0 0, .bool false, .slice none 0 0, .slice none 0 0] 26) = W4 at *
          replace HWS := hid hws2
          have hHeld := hM
          clear hM hb hws2
          try simp only [Act.put, List.setIfInBounds_toArray, List.set_cons_zero, List.set_cons_succ]
          have hG := hHeld
          clear hHeld
          have hHeld : True := trivial
          refine wpAnyG_gateOp (og := { dst := none, op := Op.store 26 (Operand.tmp 9) (Operand.tmp 30), type := 0, pos := "law.go:27", after := #[{ on := 4, ground := Ground.data }, { on := 1, ground := Ground.data }, { on := 3, ground := Ground.chain }, { on := 0, ground := Ground.phase }, { on := 1, ground := Ground.phase }, { on := 2, ground := Ground.textOnly Departure.lateStores }, { on := 3, ground := Ground.textOnly Departure.lateStoresUnsure }, { on := 4, ground := Ground.phase }, { on := 5, ground := Ground.phase }], guard := none }) (by kernel_rfl) (by kernel_rfl) (fun K hK => ?_)
          rw [if_pos (by kernel_rfl)]
          obtain ⟨za, zb, zc, zd, ze, zf, zg, zh, zi, zj⟩ := HP4.out.all
          dsimp only [sx0, sl0] at za zb zc zd ze zf zg zh zi zj
          have fz := HP4.out.fz
          have hne : P4 ≠ P5 := (by first | exact NE.out | exact Ne.symm NE.out)
          have hQ := hG.push (HC.out.off HZ4.out) HP4.out OX.out FX4.out
          have HY6 := hid (OY.out.kpo FY4.out (kp_stz W4 P4 x))
          have HP6 := hid (bs_other_stz HP5.out (Ne.symm hne) x)
          go_simp
          refine hK.out _ _ trivial (fun _ => ?_)
          clear hK K fz za zb zc zd ze zf zg zh zi zj HP5 OY OX HP4
          change wpAnyH _ _ _ _ _ _ _ _ (stz W4 P4 x)
          generalize stz W4 P4 x = W6 at *
          try simp only [Act.put, List.setIfInBounds_toArray, List.set_cons_zero, List.set_cons_succ]
          refine wpAnyH_ready (rs := [7]) (by kernel_rfl) (by simp) ?_
          refine AllReadyH.cons (o := { dst := none, op := Op.store 26 (Operand.tmp 10) (Operand.tmp 32), type := 0, pos := "law.go:27", after := #[{ on := 5, ground := Ground.data }, { on := 3, ground := Ground.data }, { on := 6, ground := Ground.chain }, { on := 0, ground := Ground.phase }, { on := 1, ground := Ground.phase }, { on := 2, ground := Ground.phase }, { on := 3, ground := Ground.phase }, { on := 4, ground := Ground.phase }, { on := 5, ground := Ground.phase }, { on := 6, ground := Ground.phase }], guard := none }) (by kernel_rfl) (fun K hK => ?_) AllReadyH.nil
          rw [if_pos (by kernel_rfl)]
          obtain ⟨za, zb, zc, zd, ze, zf, zg, zh, zi, zj⟩ := HP6.out.all
          dsimp only [sx0, sl0] at za zb zc zd ze zf zg zh zi zj
          have fz := HP6.out.fz
          have hQ2 := hQ.push ((HC.out.off HZ5.out).cons hne FX5.out) HP6.out HY6.out FY5.out
          go_simp
          refine hK.out _ _ trivial (fun _ => ?_)
          clear hK K
          try simp only [Act.put, List.setIfInBounds_toArray, List.set_cons_zero, List.set_cons_succ]
          refine wpAnyH_done (by kernel_rfl) ?_ _
          go_wp2_with fail
          go_meet
          exact ⟨P4, P5, x, y, rfl, rfl, hQ2, QX.out, QY.out⟩
        refine AllReadyG.cons (o := { dst := some 9, op := Op.alloc 26, type := 0, pos := "law.go:27", after := #[], guard := none }) (by kernel_rfl) (fun K hK => ?_) ?_
        · rw [if_pos (by kernel_rfl)]
          have hb := bel_new W1 (.cells #[.bool false, .int .i64 0, .slice none 0 0, .slice none 0 0, .bool false, .bool false, .slice none 0 0, .bool false, .slice none 0 0, .slice none 0 0] 26)
          have hM := hHeld.on hb
          have hk : Bs _ W1.heap.size sx0 := bs_new W1 sx0
          have hP0 : wc.heap.size ≤ W1.heap.size := HWS.out
          try have FX4 := hid (off_old OX.out (Nat.le_refl W1.heap.size))
          try have FY4 := hid (off_old OY.out (Nat.le_refl W1.heap.size))
          try have NE : Hid (P5 ≠ W1.heap.size) := (fun e => by have := HP5.out.lt; omega)
          try replace OX := hid (OX.out.on hb)
          try replace OY := hid (OY.out.on hb)
          try replace HP4 := hid (HP4.out.on hb)
          try replace HP5 := hid (HP5.out.on hb)
          have hws2 := Nat.le_trans HWS.out hb.size
          go_simp
          refine hK.out _ _ hM (fun _ => ?_)
          clear hK K hHeld
          obtain ⟨P4, hPP⟩ : ∃ P, P = W1.heap.size := ⟨_, rfl⟩
          rw [← hPP] at hk hP0 ⊢
          try rw [← hPP] at FX4
          try rw [← hPP] at FY4
          try rw [← hPP] at NE
          have HP4 := hid hk
          have HZ4 := hid hP0
          clear hPP hk hP0
          change Hid (Bs (W1.alloc (.cells #[.bool false, .int .i64 0, .slice none 0 0, .slice none 0 0, .bool false, .bool false, .slice none 0 0, .bool false, .slice none 0 0, .slice none 0 0] 26)) P4 sx0) at HP4
          generalize W1.alloc (.cells #[.bool false, .int .i64 0, .slice none 0 0, .slice none 0 0, .bool false, .bool false, .slice none 0 0, .bool false, .slice none 0 0, .slice none 0 0] 26) = W4 at *
          replace HWS := hid hws2
          have hHeld := hM
          clear hM hb hws2
          try simp only [Act.put, List.setIfInBounds_toArray, List.set_cons_zero, List.set_cons_succ]
          refine wpAnyG_ready (rs := [3]) (by kernel_rfl) (by simp) ?_
          refine AllReadyG.cons (o := { dst := some 32, op := Op.call { callee := Callee.value (Operand.func 9), args := #[Operand.tmp 31], argTypes := #[26] }, type := 26, pos := "law.go:27", after := #[{ on := 2, ground := Ground.data }, { on := 1, ground := Ground.chain }], guard := none }) (by kernel_rfl) (fun K hK => ?_) AllReadyG.nil
          rw [if_pos (by kernel_rfl)]
          go_simp
          go_wp2_with fail
          refine (lstate_any b _ (hHeld.ch.res (w.heap.size + 1, b) (by simp)).2 (len_mono LB.out (by omega))).mono ?_
          rintro e W3 ⟨y, rfl, okr, hnr, hqr, hb⟩
          try have FY4 := hid (off_new hnr HP4.out.lt)
          try have FY5 := hid (off_new hnr HP5.out.lt)
          try replace OX := hid (OX.out.on hb)
          try replace OY := hid (OY.out.on hb)
          try replace HP4 := hid (HP4.out.on hb)
          try replace HP5 := hid (HP5.out.on hb)
          have OY := hid okr
          have QY := hid hqr
          replace HWS := hid (Nat.le_trans HWS.out hb.size)
          have hM := hHeld.on hb
          refine hK.out _ _ hM (fun _ => ?_)
          clear hK K hHeld hb okr hqr hnr
          have hHeld := hM
          clear hM
          try simp only [Act.put, List.setIfInBounds_toArray, List.set_cons_zero, List.set_cons_succ]
          have hG := hHeld
          clear hHeld
          have hHeld : True := trivial
          refine wpAnyG_gateOp (og := { dst := none, op := Op.store 26 (Operand.tmp 9) (Operand.tmp 30), type := 0, pos := "law.go:27", after := #[{ on := 4, ground := Ground.data }, { on := 1, ground := Ground.data }, { on := 3, ground := Ground.chain }, { on := 0, ground := Ground.phase }, { on := 1, ground := Ground.phase }, { on := 2, ground := Ground.textOnly Departure.lateStores }, { on := 3, ground := Ground.textOnly Departure.lateStoresUnsure }, { on := 4, ground := Ground.phase }, { on := 5, ground := Ground.phase }], guard := none }) (by kernel_rfl) (by kernel_rfl) (fun K hK => ?_)
          rw [if_pos (by kernel_rfl)]
          obtain ⟨za, zb, zc, zd, ze, zf, zg, zh, zi, zj⟩ := HP4.out.all
          dsimp only [sx0, sl0] at za zb zc zd ze zf zg zh zi zj
          have fz := HP4.out.fz
          have hne : P4 ≠ P5 := (by first | exact NE.out | exact Ne.symm NE.out)
          have hQ := hG.push (HC.out.off HZ4.out) HP4.out OX.out FX4.out
          have HY6 := hid (OY.out.kpo FY4.out (kp_stz W3 P4 x))
          have HP6 := hid (bs_other_stz HP5.out (Ne.symm hne) x)
          go_simp
          refine hK.out _ _ trivial (fun _ => ?_)
          clear hK K fz za zb zc zd ze zf zg zh zi zj HP5 OY OX HP4
          change wpAnyH _ _ _ _ _ _ _ _ (stz W3 P4 x)
          generalize stz W3 P4 x = W6 at *
          try simp only [Act.put, List.setIfInBounds_toArray, List.set_cons_zero, List.set_cons_succ]
          refine wpAnyH_ready (rs := [7]) (by kernel_rfl) (by simp) ?_
          refine AllReadyH.cons (o := { dst := none, op := Op.store 26 (Operand.tmp 10) (Operand.tmp 32), type := 0, pos := "law.go:27", after := #[{ on := 5, ground := Ground.data }, { on := 3, ground := Ground.data }, { on := 6, ground := Ground.chain }, { on := 0, ground := Ground.phase }, { on := 1, ground := Ground.phase }, { on := 2, ground := Ground.phase }, { on := 3, ground := Ground.phase }, { on := 4, ground := Ground.phase }, { on := 5, ground := Ground.phase }, { on := 6, ground := Ground.phase }], guard := none }) (by kernel_rfl) (fun K hK => ?_) AllReadyH.nil
          rw [if_pos (by kernel_rfl)]
          obtain ⟨za, zb, zc, zd, ze, zf, zg, zh, zi, zj⟩ := HP6.out.all
          dsimp only [sx0, sl0] at za zb zc zd ze zf zg zh zi zj
          have fz := HP6.out.fz
          have hQ2 := hQ.push ((HC.out.off HZ5.out).cons hne FX5.out) HP6.out HY6.out FY5.out
          go_simp
          refine hK.out _ _ trivial (fun _ => ?_)
          clear hK K
          try simp only [Act.put, List.setIfInBounds_toArray, List.set_cons_zero, List.set_cons_succ]
          refine wpAnyH_done (by kernel_rfl) ?_ _
          go_wp2_with fail
          go_meet
          exact ⟨P4, P5, x, y, rfl, rfl, hQ2, QX.out, QY.out⟩
        exact AllReadyG.nil
      refine AllReadyG.cons (o := { dst := some 9, op := Op.alloc 26, type := 0, pos := "law.go:27", after := #[], guard := none }) (by kernel_rfl) (fun K hK => ?_) ?_
      · rw [if_pos (by kernel_rfl)]
        have hb := bel_new W5 (.cells #[.bool false, .int .i64 0, .slice none 0 0, .slice none 0 0, .bool false, .bool false, .slice none 0 0, .bool false, .slice none 0 0, .slice none 0 0] 26)
        have hM := hHeld.on hb
        have hk : Bs _ W5.heap.size sx0 := bs_new W5 sx0
        have hP0 : wc.heap.size ≤ W5.heap.size := HWS.out
        try have FX4 := hid (off_old OX.out (Nat.le_refl W5.heap.size))
        try have FY4 := hid (off_old OY.out (Nat.le_refl W5.heap.size))
        try have NE : Hid (P5 ≠ W5.heap.size) := (fun e => by have := HP5.out.lt; omega)
        try replace OX := hid (OX.out.on hb)
        try replace OY := hid (OY.out.on hb)
        try replace HP4 := hid (HP4.out.on hb)
        try replace HP5 := hid (HP5.out.on hb)
        have hws2 := Nat.le_trans HWS.out hb.size
        go_simp
        refine hK.out _ _ hM (fun _ => ?_)
        clear hK K hHeld
        obtain ⟨P4, hPP⟩ : ∃ P, P = W5.heap.size := ⟨_, rfl⟩
        rw [← hPP] at hk hP0 ⊢
        try rw [← hPP] at FX4
        try rw [← hPP] at FY4
        try rw [← hPP] at NE
        have HP4 := hid hk
        have HZ4 := hid hP0
        clear hPP hk hP0
        change Hid (Bs (W5.alloc (.cells #[.bool false, .int .i64 0, .slice none 0 0, .slice none 0 0, .bool false, .bool false, .slice none 0 0, .bool false, .slice none 0 0, .slice none 0 0] 26)) P4 sx0) at HP4
        generalize W5.alloc (.cells #[.bool false, .int .i64 0, .slice none 0 0, .slice none 0 0, .bool false, .bool false, .slice none 0 0, .bool false, .slice none 0 0, .slice none 0 0] 26) = W4 at *
        replace HWS := hid hws2
        have hHeld := hM
        clear hM hb hws2
        try simp only [Act.put, List.setIfInBounds_toArray, List.set_cons_zero, List.set_cons_succ]
        refine wpAnyG_ready (rs := [1]) (by kernel_rfl) (by simp) ?_
        refine AllReadyG.cons (o := { dst := some 30, op := Op.call { callee := Callee.value (Operand.func 9), args := #[Operand.tmp 29], argTypes := #[26] }, type := 26, pos := "law.go:27", after := #[{ on := 0, ground := Ground.data }], guard := none }) (by kernel_rfl) (fun K hK => ?_) AllReadyG.nil
        rw [if_pos (by kernel_rfl)]
        go_simp
        go_wp2_with fail
        refine (lstate_any a _ (hHeld.ch.res (w.heap.size, a) (by simp)).2 (len_mono LA.out (by omega))).mono ?_
        rintro e W1 ⟨x, rfl, okr, hnr, hqr, hb⟩
        try have FX4 := hid (off_new hnr HP4.out.lt)
        try have FX5 := hid (off_new hnr HP5.out.lt)
        try replace OX := hid (OX.out.on hb)
        try replace OY := hid (OY.out.on hb)
        try replace HP4 := hid (HP4.out.on hb)
        try replace HP5 := hid (HP5.out.on hb)
        have OX := hid okr
        have QX := hid hqr
        replace HWS := hid (Nat.le_trans HWS.out hb.size)
        have hM := hHeld.on hb
        refine hK.out _ _ hM (fun _ => ?_)
        clear hK K hHeld hb okr hqr hnr
        have hHeld := hM
        clear hM
        try simp only [Act.put, List.setIfInBounds_toArray, List.set_cons_zero, List.set_cons_succ]
        refine wpAnyG_ready (rs := [3]) (by kernel_rfl) (by simp) ?_
        refine AllReadyG.cons (o := { dst := some 32, op := Op.call { callee := Callee.value (Operand.func 9), args := #[Operand.tmp 31], argTypes := #[26] }, type := 26, pos := "law.go:27", after := #[{ on := 2, ground := Ground.data }, { on := 1, ground := Ground.chain }], guard := none }) (by kernel_rfl) (fun K hK => ?_) AllReadyG.nil
        rw [if_pos (by kernel_rfl)]
        go_simp
        go_wp2_with fail
        refine (lstate_any b _ (hHeld.ch.res (w.heap.size + 1, b) (by simp)).2 (len_mono LB.out (by omega))).mono ?_
        rintro e W3 ⟨y, rfl, okr, hnr, hqr, hb⟩
        try have FY4 := hid (off_new hnr HP4.out.lt)
        try have FY5 := hid (off_new hnr HP5.out.lt)
        try replace OX := hid (OX.out.on hb)
        try replace OY := hid (OY.out.on hb)
        try replace HP4 := hid (HP4.out.on hb)
        try replace HP5 := hid (HP5.out.on hb)
        have OY := hid okr
        have QY := hid hqr
        replace HWS := hid (Nat.le_trans HWS.out hb.size)
        have hM := hHeld.on hb
        refine hK.out _ _ hM (fun _ => ?_)
        clear hK K hHeld hb okr hqr hnr
        have hHeld := hM
        clear hM
        try simp only [Act.put, List.setIfInBounds_toArray, List.set_cons_zero, List.set_cons_succ]
        have hG := hHeld
        clear hHeld
        have hHeld : True := trivial
        refine wpAnyG_gateOp (og := { dst := none, op := Op.store 26 (Operand.tmp 9) (Operand.tmp 30), type := 0, pos := "law.go:27", after := #[{ on := 4, ground := Ground.data }, { on := 1, ground := Ground.data }, { on := 3, ground := Ground.chain }, { on := 0, ground := Ground.phase }, { on := 1, ground := Ground.phase }, { on := 2, ground := Ground.textOnly Departure.lateStores }, { on := 3, ground := Ground.textOnly Departure.lateStoresUnsure }, { on := 4, ground := Ground.phase }, { on := 5, ground := Ground.phase }], guard := none }) (by kernel_rfl) (by kernel_rfl) (fun K hK => ?_)
        rw [if_pos (by kernel_rfl)]
        obtain ⟨za, zb, zc, zd, ze, zf, zg, zh, zi, zj⟩ := HP4.out.all
        dsimp only [sx0, sl0] at za zb zc zd ze zf zg zh zi zj
        have fz := HP4.out.fz
        have hne : P4 ≠ P5 := (by first | exact NE.out | exact Ne.symm NE.out)
        have hQ := hG.push (HC.out.off HZ4.out) HP4.out OX.out FX4.out
        have HY6 := hid (OY.out.kpo FY4.out (kp_stz W3 P4 x))
        have HP6 := hid (bs_other_stz HP5.out (Ne.symm hne) x)
        go_simp
        refine hK.out _ _ trivial (fun _ => ?_)
        clear hK K fz za zb zc zd ze zf zg zh zi zj HP5 OY OX HP4
        change wpAnyH _ _ _ _ _ _ _ _ (stz W3 P4 x)
        generalize stz W3 P4 x = W6 at *
        try simp only [Act.put, List.setIfInBounds_toArray, List.set_cons_zero, List.set_cons_succ]
        refine wpAnyH_ready (rs := [7]) (by kernel_rfl) (by simp) ?_
        refine AllReadyH.cons (o := { dst := none, op := Op.store 26 (Operand.tmp 10) (Operand.tmp 32), type := 0, pos := "law.go:27", after := #[{ on := 5, ground := Ground.data }, { on := 3, ground := Ground.data }, { on := 6, ground := Ground.chain }, { on := 0, ground := Ground.phase }, { on := 1, ground := Ground.phase }, { on := 2, ground := Ground.phase }, { on := 3, ground := Ground.phase }, { on := 4, ground := Ground.phase }, { on := 5, ground := Ground.phase }, { on := 6, ground := Ground.phase }], guard := none }) (by kernel_rfl) (fun K hK => ?_) AllReadyH.nil
        rw [if_pos (by kernel_rfl)]
        obtain ⟨za, zb, zc, zd, ze, zf, zg, zh, zi, zj⟩ := HP6.out.all
        dsimp only [sx0, sl0] at za zb zc zd ze zf zg zh zi zj
        have fz := HP6.out.fz
        have hQ2 := hQ.push ((HC.out.off HZ5.out).cons hne FX5.out) HP6.out HY6.out FY5.out
        go_simp
        refine hK.out _ _ trivial (fun _ => ?_)
        clear hK K
        try simp only [Act.put, List.setIfInBounds_toArray, List.set_cons_zero, List.set_cons_succ]
        refine wpAnyH_done (by kernel_rfl) ?_ _
        go_wp2_with fail
        go_meet
        exact ⟨P4, P5, x, y, rfl, rfl, hQ2, QX.out, QY.out⟩
      exact AllReadyG.nil
    exact AllReadyG.nil
  obtain ⟨P4, P5, x, y, rfl, rfl, hch, hqx, hqy⟩ := hcut
  clear HC
  have HC := hid hch
  have QX := hid hqx
  have QY := hid hqy
  have LX := hid (len_of (hch.ch.res (P4, x) (by simp)).2 (k := 60) (by
    obtain ⟨l2, l3, l6, l8, l9⟩ := LA.out
    have h := (hch.ch.res (w.heap.size, a) (by simp)).2
    have k1 := h.dm.len
    have k2 := h.fr.len
    have k3 := h.rg.len
    have k4 := h.od.len
    have k5 := h.pl.len
    rw [hqx]
    simp only [Sx.q]
    simp only at k1 k2 k3 k4 k5
    omega))
  have LY := hid (len_of (hch.ch.res (P5, y) (by simp)).2 (k := 60) (by
    obtain ⟨l2, l3, l6, l8, l9⟩ := LB.out
    have h := (hch.ch.res (w.heap.size + 1, b) (by simp)).2
    have k1 := h.dm.len
    have k2 := h.fr.len
    have k3 := h.rg.len
    have k4 := h.od.len
    have k5 := h.pl.len
    rw [hqy]
    simp only [Sx.q]
    simp only at k1 k2 k3 k4 k5
    omega))
  clear hch hqx hqy
  go_upto_region 4 with fail
  go_cut [11, 12] (fun v v' wc => ∃ (P8 : Nat) (f0 f1 f2 : Int) (bo : Option Bool), v = .pointer (some ⟨P8, 0, none⟩) ∧ v' = .bool (bo.getD false) ∧ FndV z0 s.l (.agg #[.int .i64 f0, .int .i64 f1, .int .i64 f2]) (bo.getD false) ∧ Bk wc P8 28 #[.int .i64 f0, .int .i64 f1, .int .i64 f2] ∧ Ca w z0 z1 z2 s [(P5, y), (P4, x), (w.heap.size, a), (w.heap.size + 1, b)] wc)
  case first =>
    have HWS : Hid (wc.heap.size ≤ wc.drew.heap.size) := Nat.le_refl _
    refine swap_ops (ops' := opsA4) (by kernel_rfl) ?_
    refine wp_region_held_drew (S := Ca w z0 z1 z2 s [(P5, y), (P4, x), (w.heap.size, a), (w.heap.size + 1, b)]) (by kernel_rfl) ?hh (fun hHeld => ?_)
    case hh => exact (HC.out.drew)
    generalize wc.drew = W0 at hHeld HWS ⊢
    try dsimp only at hHeld
    refine wpAnyH_take (i := 0) (v := ?_) (oi := { dst := some 34, op := Op.move (Operand.tmp 2), type := 24, pos := "law.go:28", after := #[], guard := none }) (by kernel_rfl) (by kernel_rfl) (by kernel_rfl) (by kernel_rfl) (fun _ _ _ h => h) (Or.inl ⟨by kernel_rfl, ?hy0⟩) (by assumption) ?_
    case hy0 => (intro wI hSw; (try dsimp only at hSw); have t0 := hSw.ck.cell 0; have t1 := hSw.ck.cell 1; have t2 := hSw.ck.cell 2; go_simp; try with_reducible rfl)
    try simp only [Act.put, List.setIfInBounds_toArray, List.set_cons_zero, List.set_cons_succ]
    refine wpAnyH_take (i := 2) (v := ?_) (oi := { dst := some 36, op := Op.fieldAddr 28 (Operand.tmp 7) 0, type := 0, pos := "law.go:28", after := #[], guard := none }) (by kernel_rfl) (by kernel_rfl) (by kernel_rfl) (by kernel_rfl) (fun _ _ _ h => h) (Or.inl ⟨by kernel_rfl, ?hy2⟩) (by assumption) ?_
    case hy2 => (intro wI hSw; (try dsimp only at hSw); have t0 := hSw.ck.cell 0; have t1 := hSw.ck.cell 1; have t2 := hSw.ck.cell 2; go_simp; try with_reducible rfl)
    try simp only [Act.put, List.setIfInBounds_toArray, List.set_cons_zero, List.set_cons_succ]
    refine wpAnyH_take (i := 3) (v := ?_) (oi := { dst := some 37, op := Op.load 3 (Operand.tmp 36), type := 3, pos := "law.go:28", after := #[{ on := 2, ground := Ground.data }], guard := none }) (by kernel_rfl) (by kernel_rfl) (by kernel_rfl) (by kernel_rfl) (fun _ _ _ h => h) (Or.inl ⟨by kernel_rfl, ?hy3⟩) (by assumption) ?_
    case hy3 => (intro wI hSw; (try dsimp only at hSw); have t0 := hSw.ck.cell 0; have t1 := hSw.ck.cell 1; have t2 := hSw.ck.cell 2; go_simp; try with_reducible rfl)
    try simp only [Act.put, List.setIfInBounds_toArray, List.set_cons_zero, List.set_cons_succ]
    refine wpAnyH_ready (rs := [1, 8]) (by kernel_rfl) (by simp) ?_
    refine AllReadyH.cons (o := { dst := some 35, op := Op.call { callee := Callee.builtin Builtin.append, args := #[Operand.const (Value.slice none 0 0), Operand.tmp 34], argTypes := #[24, 24] }, type := 24, pos := "law.go:28", after := #[{ on := 0, ground := Ground.data }], guard := none }) (by kernel_rfl) (fun K hK => ?_) ?_
    · refine step_appG (by kernel_rfl) (.const (.slice none 0 0)) (.tmp 34) 24 24 rfl W0.heap.size 28 i0 (.agg #[.int .i64 0, .int .i64 0, .int .i64 0]) 3 24 Try.underlying24 hi hn0 hn1 hn2 rfl _ _ _ (by simp [Act.eval]) (World.ownsRow_nil _ _ _ _) _ _ _ (by simp [Act.eval]) (hHeld.lr.src Try.underlying24) (by simp only [maxLen]; omega) (fitsM (by omega) (by decide)) (Nat.le_refl _) ?_
      intro v1 W1 o1 g1
      rw [Nat.zero_add, List.nil_append] at o1
      have hb := (kp_of_grown g1).below (Nat.le_refl _) (fun k hk => by cases hk)
      have hO : OwM 3 28 W0 W1 v1 s.l := ⟨by rw [HSL.out]; exact o1, hb, HSS.out⟩
      obtain ⟨a1, c1, rfl, hR, -⟩ := hO.rd
      have R1 := hid hR
      try replace HP8 := hid (HP8.out.on hb)
      replace HWS := hid (Nat.le_trans HWS.out hb.size)
      have hM := hHeld.on hb
      refine hK.out _ _ hM (fun _ => ?_)
      clear hK K o1 g1 hb hO hR hHeld
      have hHeld := hM
      clear hM
      try simp only [Act.put, List.setIfInBounds_toArray, List.set_cons_zero, List.set_cons_succ]
      refine wpAnyH_ready (rs := [4, 8]) (by kernel_rfl) (by simp) ?_
      refine AllReadyH.cons (o := { dst := some 38, op := Op.call { callee := Callee.value (Operand.func 10), args := #[Operand.tmp 35, Operand.tmp 37], argTypes := #[24, 3] }, type := 32, pos := "law.go:28", after := #[{ on := 1, ground := Ground.data }, { on := 3, ground := Ground.data }, { on := 1, ground := Ground.chain }], guard := none }) (by kernel_rfl) (fun K hK => ?_) ?_
      · rw [if_pos (by kernel_rfl)]
        go_simp
        go_wp2_with fail
        refine (find_any _ _ _ _ z0 _ R1.out).mono ?_
        rintro e W4 ⟨f0, f1, f2, b4, rfl, hF, hb⟩
        have HF := hid hF
        try replace HP8 := hid (HP8.out.on hb)
        replace HWS := hid (Nat.le_trans HWS.out hb.size)
        have hM := hHeld.on hb
        refine hK.out _ _ hM (fun _ => ?_)
        clear hK K hHeld hb hF
        have hHeld := hM
        clear hM
        try simp only [Act.put, List.setIfInBounds_toArray, List.set_cons_zero, List.set_cons_succ]
        refine wpAnyH_take (i := 5) (v := ?_) (oi := { dst := some 33, op := Op.move (Operand.tmp 38), type := 32, pos := "law.go:28", after := #[{ on := 4, ground := Ground.data }], guard := none }) (by kernel_rfl) (by kernel_rfl) (by kernel_rfl) (by kernel_rfl) (fun _ _ _ h => h) (Or.inl ⟨by kernel_rfl, ?hy5⟩) (by assumption) ?_
        case hy5 => (intro wI hSw; (try dsimp only at hSw); have t0 := hSw.ck.cell 0; have t1 := hSw.ck.cell 1; have t2 := hSw.ck.cell 2; go_simp; try with_reducible rfl)
        try simp only [Act.put, List.setIfInBounds_toArray, List.set_cons_zero, List.set_cons_succ]
        refine wpAnyH_take (i := 6) (v := ?_) (oi := { dst := some 39, op := Op.extract (Operand.tmp 33) 0, type := 28, pos := "law.go:28", after := #[{ on := 5, ground := Ground.data }], guard := none }) (by kernel_rfl) (by kernel_rfl) (by kernel_rfl) (by kernel_rfl) (fun _ _ _ h => h) (Or.inl ⟨by kernel_rfl, ?hy6⟩) (by assumption) ?_
        case hy6 => (intro wI hSw; (try dsimp only at hSw); have t0 := hSw.ck.cell 0; have t1 := hSw.ck.cell 1; have t2 := hSw.ck.cell 2; go_simp; try with_reducible rfl)
        try simp only [Act.put, List.setIfInBounds_toArray, List.set_cons_zero, List.set_cons_succ]
        refine wpAnyH_take (i := 7) (v := ?_) (oi := { dst := some 40, op := Op.extract (Operand.tmp 33) 1, type := 4, pos := "law.go:28", after := #[{ on := 5, ground := Ground.data }, { on := 9, ground := Ground.gcOnly Departure.lateStores }], guard := none }) (by kernel_rfl) (by kernel_rfl) (by kernel_rfl) (by kernel_rfl) (fun _ _ _ h => h) (Or.inl ⟨by kernel_rfl, ?hy7⟩) (by assumption) ?_
        case hy7 => (intro wI hSw; (try dsimp only at hSw); have t0 := hSw.ck.cell 0; have t1 := hSw.ck.cell 1; have t2 := hSw.ck.cell 2; go_simp; try with_reducible rfl)
        try simp only [Act.put, List.setIfInBounds_toArray, List.set_cons_zero, List.set_cons_succ]
        refine wpAnyH_ready (rs := [8]) (by kernel_rfl) (by simp) ?_
        refine AllReadyH.cons (o := { dst := some 11, op := Op.alloc 28, type := 0, pos := "law.go:28", after := #[], guard := none }) (by kernel_rfl) (fun K hK => ?_) AllReadyH.nil
        rw [if_pos (by kernel_rfl)]
        have hb := bel_new W4 (.cells #[.int .i64 0, .int .i64 0, .int .i64 0] 28)
        have hM := hHeld.on hb
        have hk := bk_new W4 #[.int .i64 0, .int .i64 0, .int .i64 0] 28
        have hP0 : wc.heap.size ≤ W4.heap.size := HWS.out
        try replace R1 := hid (R1.out.on hb)
        have hws2 := Nat.le_trans HWS.out hb.size
        go_simp
        refine hK.out _ _ hM (fun _ => ?_)
        clear hK K hHeld
        obtain ⟨P8, hPP⟩ : ∃ P, P = W4.heap.size := ⟨_, rfl⟩
        rw [← hPP] at hk hP0 ⊢
        have HP8 := hid hk
        have HZ8 := hid hP0
        clear hPP hk hP0
        generalize W4.alloc (.cells #[.int .i64 0, .int .i64 0, .int .i64 0] 28) = W8 at *
        replace HWS := hid hws2
        have hHeld := hM
        clear hM hb hws2
        try simp only [Act.put, List.setIfInBounds_toArray, List.set_cons_zero, List.set_cons_succ]
        refine wpAnyH_ready (rs := [9]) (by kernel_rfl) (by simp) ?_
        refine AllReadyH.cons (o := { dst := none, op := Op.store 28 (Operand.tmp 11) (Operand.tmp 39), type := 0, pos := "law.go:28", after := #[{ on := 8, ground := Ground.data }, { on := 6, ground := Ground.data }, { on := 4, ground := Ground.chain }, { on := 0, ground := Ground.phase }, { on := 1, ground := Ground.phase }, { on := 2, ground := Ground.phase }, { on := 3, ground := Ground.phase }, { on := 4, ground := Ground.phase }, { on := 5, ground := Ground.phase }, { on := 6, ground := Ground.phase }, { on := 7, ground := Ground.textOnly Departure.lateStores }, { on := 8, ground := Ground.phase }], guard := none }) (by kernel_rfl) (fun K hK => ?_) AllReadyH.nil
        rw [if_pos (by kernel_rfl)]
        have za := HP8.out.cell 0
        have zb := HP8.out.cell 1
        have zc := HP8.out.cell 2
        have fz := HP8.out.fz
        have hQ := hHeld.kp (HC.out.off HZ8.out) (kp3 W8 P8 f0 f1 f2)
        have hK8 := bk3 HP8.out f0 f1 f2
        go_simp
        refine hK.out _ _ hQ (fun _ => ?_)
        clear hK K fz za zb zc hHeld
        have hHeld := hQ
        clear hQ
        try simp only [Act.put, List.setIfInBounds_toArray, List.set_cons_zero, List.set_cons_succ]
        refine wpAnyH_take (i := 10) (v := ?_) (oi := { dst := some 12, op := Op.assign (Operand.tmp 40), type := 4, pos := "law.go:28", after := #[{ on := 7, ground := Ground.data }, { on := 9, ground := Ground.chain }, { on := 0, ground := Ground.phase }, { on := 1, ground := Ground.phase }, { on := 2, ground := Ground.phase }, { on := 3, ground := Ground.phase }, { on := 4, ground := Ground.phase }, { on := 5, ground := Ground.phase }, { on := 6, ground := Ground.phase }, { on := 7, ground := Ground.phase }, { on := 8, ground := Ground.phase }, { on := 9, ground := Ground.phase }], guard := none }) (by kernel_rfl) (by kernel_rfl) (by kernel_rfl) (by kernel_rfl) (fun _ _ _ h => h) (Or.inl ⟨by kernel_rfl, ?hy10⟩) (by assumption) ?_
        case hy10 => (intro wI hSw; (try dsimp only at hSw); have t0 := hSw.ck.cell 0; have t1 := hSw.ck.cell 1; have t2 := hSw.ck.cell 2; go_simp; try with_reducible rfl)
        try simp only [Act.put, List.setIfInBounds_toArray, List.set_cons_zero, List.set_cons_succ]
        refine wpAnyH_done (by kernel_rfl) ?_ _
        go_wp2_with fail
        go_meet
        exact ⟨P8, f0, f1, f2, some b4, rfl, rfl, HF.out, hK8, hHeld⟩
      refine AllReadyH.cons (o := { dst := some 11, op := Op.alloc 28, type := 0, pos := "law.go:28", after := #[], guard := none }) (by kernel_rfl) (fun K hK => ?_) ?_
      · rw [if_pos (by kernel_rfl)]
        have hb := bel_new W1 (.cells #[.int .i64 0, .int .i64 0, .int .i64 0] 28)
        have hM := hHeld.on hb
        have hk := bk_new W1 #[.int .i64 0, .int .i64 0, .int .i64 0] 28
        have hP0 : wc.heap.size ≤ W1.heap.size := HWS.out
        try replace R1 := hid (R1.out.on hb)
        have hws2 := Nat.le_trans HWS.out hb.size
        go_simp
        refine hK.out _ _ hM (fun _ => ?_)
        clear hK K hHeld
        obtain ⟨P8, hPP⟩ : ∃ P, P = W1.heap.size := ⟨_, rfl⟩
        rw [← hPP] at hk hP0 ⊢
        have HP8 := hid hk
        have HZ8 := hid hP0
        clear hPP hk hP0
        generalize W1.alloc (.cells #[.int .i64 0, .int .i64 0, .int .i64 0] 28) = W8 at *
        replace HWS := hid hws2
        have hHeld := hM
        clear hM hb hws2
        try simp only [Act.put, List.setIfInBounds_toArray, List.set_cons_zero, List.set_cons_succ]
        refine wpAnyH_ready (rs := [4]) (by kernel_rfl) (by simp) ?_
        refine AllReadyH.cons (o := { dst := some 38, op := Op.call { callee := Callee.value (Operand.func 10), args := #[Operand.tmp 35, Operand.tmp 37], argTypes := #[24, 3] }, type := 32, pos := "law.go:28", after := #[{ on := 1, ground := Ground.data }, { on := 3, ground := Ground.data }, { on := 1, ground := Ground.chain }], guard := none }) (by kernel_rfl) (fun K hK => ?_) AllReadyH.nil
        rw [if_pos (by kernel_rfl)]
        go_simp
        go_wp2_with fail
        refine (find_any _ _ _ _ z0 _ R1.out).mono ?_
        rintro e W4 ⟨f0, f1, f2, b4, rfl, hF, hb⟩
        have HF := hid hF
        try replace HP8 := hid (HP8.out.on hb)
        replace HWS := hid (Nat.le_trans HWS.out hb.size)
        have hM := hHeld.on hb
        refine hK.out _ _ hM (fun _ => ?_)
        clear hK K hHeld hb hF
        have hHeld := hM
        clear hM
        try simp only [Act.put, List.setIfInBounds_toArray, List.set_cons_zero, List.set_cons_succ]
        refine wpAnyH_take (i := 5) (v := ?_) (oi := { dst := some 33, op := Op.move (Operand.tmp 38), type := 32, pos := "law.go:28", after := #[{ on := 4, ground := Ground.data }], guard := none }) (by kernel_rfl) (by kernel_rfl) (by kernel_rfl) (by kernel_rfl) (fun _ _ _ h => h) (Or.inl ⟨by kernel_rfl, ?hy5⟩) (by assumption) ?_
        case hy5 => (intro wI hSw; (try dsimp only at hSw); have t0 := hSw.ck.cell 0; have t1 := hSw.ck.cell 1; have t2 := hSw.ck.cell 2; go_simp; try with_reducible rfl)
        try simp only [Act.put, List.setIfInBounds_toArray, List.set_cons_zero, List.set_cons_succ]
        refine wpAnyH_take (i := 6) (v := ?_) (oi := { dst := some 39, op := Op.extract (Operand.tmp 33) 0, type := 28, pos := "law.go:28", after := #[{ on := 5, ground := Ground.data }], guard := none }) (by kernel_rfl) (by kernel_rfl) (by kernel_rfl) (by kernel_rfl) (fun _ _ _ h => h) (Or.inl ⟨by kernel_rfl, ?hy6⟩) (by assumption) ?_
        case hy6 => (intro wI hSw; (try dsimp only at hSw); have t0 := hSw.ck.cell 0; have t1 := hSw.ck.cell 1; have t2 := hSw.ck.cell 2; go_simp; try with_reducible rfl)
        try simp only [Act.put, List.setIfInBounds_toArray, List.set_cons_zero, List.set_cons_succ]
        refine wpAnyH_take (i := 7) (v := ?_) (oi := { dst := some 40, op := Op.extract (Operand.tmp 33) 1, type := 4, pos := "law.go:28", after := #[{ on := 5, ground := Ground.data }, { on := 9, ground := Ground.gcOnly Departure.lateStores }], guard := none }) (by kernel_rfl) (by kernel_rfl) (by kernel_rfl) (by kernel_rfl) (fun _ _ _ h => h) (Or.inl ⟨by kernel_rfl, ?hy7⟩) (by assumption) ?_
        case hy7 => (intro wI hSw; (try dsimp only at hSw); have t0 := hSw.ck.cell 0; have t1 := hSw.ck.cell 1; have t2 := hSw.ck.cell 2; go_simp; try with_reducible rfl)
        try simp only [Act.put, List.setIfInBounds_toArray, List.set_cons_zero, List.set_cons_succ]
        refine wpAnyH_ready (rs := [9]) (by kernel_rfl) (by simp) ?_
        refine AllReadyH.cons (o := { dst := none, op := Op.store 28 (Operand.tmp 11) (Operand.tmp 39), type := 0, pos := "law.go:28", after := #[{ on := 8, ground := Ground.data }, { on := 6, ground := Ground.data }, { on := 4, ground := Ground.chain }, { on := 0, ground := Ground.phase }, { on := 1, ground := Ground.phase }, { on := 2, ground := Ground.phase }, { on := 3, ground := Ground.phase }, { on := 4, ground := Ground.phase }, { on := 5, ground := Ground.phase }, { on := 6, ground := Ground.phase }, { on := 7, ground := Ground.textOnly Departure.lateStores }, { on := 8, ground := Ground.phase }], guard := none }) (by kernel_rfl) (fun K hK => ?_) AllReadyH.nil
        rw [if_pos (by kernel_rfl)]
        have za := HP8.out.cell 0
        have zb := HP8.out.cell 1
        have zc := HP8.out.cell 2
        have fz := HP8.out.fz
        have hQ := hHeld.kp (HC.out.off HZ8.out) (kp3 W4 P8 f0 f1 f2)
        have hK8 := bk3 HP8.out f0 f1 f2
        go_simp
        refine hK.out _ _ hQ (fun _ => ?_)
        clear hK K fz za zb zc hHeld
        have hHeld := hQ
        clear hQ
        try simp only [Act.put, List.setIfInBounds_toArray, List.set_cons_zero, List.set_cons_succ]
        refine wpAnyH_take (i := 10) (v := ?_) (oi := { dst := some 12, op := Op.assign (Operand.tmp 40), type := 4, pos := "law.go:28", after := #[{ on := 7, ground := Ground.data }, { on := 9, ground := Ground.chain }, { on := 0, ground := Ground.phase }, { on := 1, ground := Ground.phase }, { on := 2, ground := Ground.phase }, { on := 3, ground := Ground.phase }, { on := 4, ground := Ground.phase }, { on := 5, ground := Ground.phase }, { on := 6, ground := Ground.phase }, { on := 7, ground := Ground.phase }, { on := 8, ground := Ground.phase }, { on := 9, ground := Ground.phase }], guard := none }) (by kernel_rfl) (by kernel_rfl) (by kernel_rfl) (by kernel_rfl) (fun _ _ _ h => h) (Or.inl ⟨by kernel_rfl, ?hy10⟩) (by assumption) ?_
        case hy10 => (intro wI hSw; (try dsimp only at hSw); have t0 := hSw.ck.cell 0; have t1 := hSw.ck.cell 1; have t2 := hSw.ck.cell 2; go_simp; try with_reducible rfl)
        try simp only [Act.put, List.setIfInBounds_toArray, List.set_cons_zero, List.set_cons_succ]
        refine wpAnyH_done (by kernel_rfl) ?_ _
        go_wp2_with fail
        go_meet
        exact ⟨P8, f0, f1, f2, some b4, rfl, rfl, HF.out, hK8, hHeld⟩
      exact AllReadyH.nil
    refine AllReadyH.cons (o := { dst := some 11, op := Op.alloc 28, type := 0, pos := "law.go:28", after := #[], guard := none }) (by kernel_rfl) (fun K hK => ?_) ?_
    · rw [if_pos (by kernel_rfl)]
      have hb := bel_new W0 (.cells #[.int .i64 0, .int .i64 0, .int .i64 0] 28)
      have hM := hHeld.on hb
      have hk := bk_new W0 #[.int .i64 0, .int .i64 0, .int .i64 0] 28
      have hP0 : wc.heap.size ≤ W0.heap.size := HWS.out
      try replace R1 := hid (R1.out.on hb)
      have hws2 := Nat.le_trans HWS.out hb.size
      go_simp
      refine hK.out _ _ hM (fun _ => ?_)
      clear hK K hHeld
      obtain ⟨P8, hPP⟩ : ∃ P, P = W0.heap.size := ⟨_, rfl⟩
      rw [← hPP] at hk hP0 ⊢
      have HP8 := hid hk
      have HZ8 := hid hP0
      clear hPP hk hP0
      generalize W0.alloc (.cells #[.int .i64 0, .int .i64 0, .int .i64 0] 28) = W8 at *
      replace HWS := hid hws2
      have hHeld := hM
      clear hM hb hws2
      try simp only [Act.put, List.setIfInBounds_toArray, List.set_cons_zero, List.set_cons_succ]
      refine wpAnyH_ready (rs := [1]) (by kernel_rfl) (by simp) ?_
      refine AllReadyH.cons (o := { dst := some 35, op := Op.call { callee := Callee.builtin Builtin.append, args := #[Operand.const (Value.slice none 0 0), Operand.tmp 34], argTypes := #[24, 24] }, type := 24, pos := "law.go:28", after := #[{ on := 0, ground := Ground.data }], guard := none }) (by kernel_rfl) (fun K hK => ?_) AllReadyH.nil
      refine step_appG (by kernel_rfl) (.const (.slice none 0 0)) (.tmp 34) 24 24 rfl W8.heap.size 28 i0 (.agg #[.int .i64 0, .int .i64 0, .int .i64 0]) 3 24 Try.underlying24 hi hn0 hn1 hn2 rfl _ _ _ (by simp [Act.eval]) (World.ownsRow_nil _ _ _ _) _ _ _ (by simp [Act.eval]) (hHeld.lr.src Try.underlying24) (by simp only [maxLen]; omega) (fitsM (by omega) (by decide)) (Nat.le_refl _) ?_
      intro v1 W1 o1 g1
      rw [Nat.zero_add, List.nil_append] at o1
      have hb := (kp_of_grown g1).below (Nat.le_refl _) (fun k hk => by cases hk)
      have hO : OwM 3 28 W8 W1 v1 s.l := ⟨by rw [HSL.out]; exact o1, hb, HSS.out⟩
      obtain ⟨a1, c1, rfl, hR, -⟩ := hO.rd
      have R1 := hid hR
      try replace HP8 := hid (HP8.out.on hb)
      replace HWS := hid (Nat.le_trans HWS.out hb.size)
      have hM := hHeld.on hb
      refine hK.out _ _ hM (fun _ => ?_)
      clear hK K o1 g1 hb hO hR hHeld
      have hHeld := hM
      clear hM
      try simp only [Act.put, List.setIfInBounds_toArray, List.set_cons_zero, List.set_cons_succ]
      refine wpAnyH_ready (rs := [4]) (by kernel_rfl) (by simp) ?_
      refine AllReadyH.cons (o := { dst := some 38, op := Op.call { callee := Callee.value (Operand.func 10), args := #[Operand.tmp 35, Operand.tmp 37], argTypes := #[24, 3] }, type := 32, pos := "law.go:28", after := #[{ on := 1, ground := Ground.data }, { on := 3, ground := Ground.data }, { on := 1, ground := Ground.chain }], guard := none }) (by kernel_rfl) (fun K hK => ?_) AllReadyH.nil
      rw [if_pos (by kernel_rfl)]
      go_simp
      go_wp2_with fail
      refine (find_any _ _ _ _ z0 _ R1.out).mono ?_
      rintro e W4 ⟨f0, f1, f2, b4, rfl, hF, hb⟩
      have HF := hid hF
      try replace HP8 := hid (HP8.out.on hb)
      replace HWS := hid (Nat.le_trans HWS.out hb.size)
      have hM := hHeld.on hb
      refine hK.out _ _ hM (fun _ => ?_)
      clear hK K hHeld hb hF
      have hHeld := hM
      clear hM
      try simp only [Act.put, List.setIfInBounds_toArray, List.set_cons_zero, List.set_cons_succ]
      refine wpAnyH_take (i := 5) (v := ?_) (oi := { dst := some 33, op := Op.move (Operand.tmp 38), type := 32, pos := "law.go:28", after := #[{ on := 4, ground := Ground.data }], guard := none }) (by kernel_rfl) (by kernel_rfl) (by kernel_rfl) (by kernel_rfl) (fun _ _ _ h => h) (Or.inl ⟨by kernel_rfl, ?hy5⟩) (by assumption) ?_
      case hy5 => (intro wI hSw; (try dsimp only at hSw); have t0 := hSw.ck.cell 0; have t1 := hSw.ck.cell 1; have t2 := hSw.ck.cell 2; go_simp; try with_reducible rfl)
      try simp only [Act.put, List.setIfInBounds_toArray, List.set_cons_zero, List.set_cons_succ]
      refine wpAnyH_take (i := 6) (v := ?_) (oi := { dst := some 39, op := Op.extract (Operand.tmp 33) 0, type := 28, pos := "law.go:28", after := #[{ on := 5, ground := Ground.data }], guard := none }) (by kernel_rfl) (by kernel_rfl) (by kernel_rfl) (by kernel_rfl) (fun _ _ _ h => h) (Or.inl ⟨by kernel_rfl, ?hy6⟩) (by assumption) ?_
      case hy6 => (intro wI hSw; (try dsimp only at hSw); have t0 := hSw.ck.cell 0; have t1 := hSw.ck.cell 1; have t2 := hSw.ck.cell 2; go_simp; try with_reducible rfl)
      try simp only [Act.put, List.setIfInBounds_toArray, List.set_cons_zero, List.set_cons_succ]
      refine wpAnyH_take (i := 7) (v := ?_) (oi := { dst := some 40, op := Op.extract (Operand.tmp 33) 1, type := 4, pos := "law.go:28", after := #[{ on := 5, ground := Ground.data }, { on := 9, ground := Ground.gcOnly Departure.lateStores }], guard := none }) (by kernel_rfl) (by kernel_rfl) (by kernel_rfl) (by kernel_rfl) (fun _ _ _ h => h) (Or.inl ⟨by kernel_rfl, ?hy7⟩) (by assumption) ?_
      case hy7 => (intro wI hSw; (try dsimp only at hSw); have t0 := hSw.ck.cell 0; have t1 := hSw.ck.cell 1; have t2 := hSw.ck.cell 2; go_simp; try with_reducible rfl)
      try simp only [Act.put, List.setIfInBounds_toArray, List.set_cons_zero, List.set_cons_succ]
      refine wpAnyH_ready (rs := [9]) (by kernel_rfl) (by simp) ?_
      refine AllReadyH.cons (o := { dst := none, op := Op.store 28 (Operand.tmp 11) (Operand.tmp 39), type := 0, pos := "law.go:28", after := #[{ on := 8, ground := Ground.data }, { on := 6, ground := Ground.data }, { on := 4, ground := Ground.chain }, { on := 0, ground := Ground.phase }, { on := 1, ground := Ground.phase }, { on := 2, ground := Ground.phase }, { on := 3, ground := Ground.phase }, { on := 4, ground := Ground.phase }, { on := 5, ground := Ground.phase }, { on := 6, ground := Ground.phase }, { on := 7, ground := Ground.textOnly Departure.lateStores }, { on := 8, ground := Ground.phase }], guard := none }) (by kernel_rfl) (fun K hK => ?_) AllReadyH.nil
      rw [if_pos (by kernel_rfl)]
      have za := HP8.out.cell 0
      have zb := HP8.out.cell 1
      have zc := HP8.out.cell 2
      have fz := HP8.out.fz
      have hQ := hHeld.kp (HC.out.off HZ8.out) (kp3 W4 P8 f0 f1 f2)
      have hK8 := bk3 HP8.out f0 f1 f2
      go_simp
      refine hK.out _ _ hQ (fun _ => ?_)
      clear hK K fz za zb zc hHeld
      have hHeld := hQ
      clear hQ
      try simp only [Act.put, List.setIfInBounds_toArray, List.set_cons_zero, List.set_cons_succ]
      refine wpAnyH_take (i := 10) (v := ?_) (oi := { dst := some 12, op := Op.assign (Operand.tmp 40), type := 4, pos := "law.go:28", after := #[{ on := 7, ground := Ground.data }, { on := 9, ground := Ground.chain }, { on := 0, ground := Ground.phase }, { on := 1, ground := Ground.phase }, { on := 2, ground := Ground.phase }, { on := 3, ground := Ground.phase }, { on := 4, ground := Ground.phase }, { on := 5, ground := Ground.phase }, { on := 6, ground := Ground.phase }, { on := 7, ground := Ground.phase }, { on := 8, ground := Ground.phase }, { on := 9, ground := Ground.phase }], guard := none }) (by kernel_rfl) (by kernel_rfl) (by kernel_rfl) (by kernel_rfl) (fun _ _ _ h => h) (Or.inl ⟨by kernel_rfl, ?hy10⟩) (by assumption) ?_
      case hy10 => (intro wI hSw; (try dsimp only at hSw); have t0 := hSw.ck.cell 0; have t1 := hSw.ck.cell 1; have t2 := hSw.ck.cell 2; go_simp; try with_reducible rfl)
      try simp only [Act.put, List.setIfInBounds_toArray, List.set_cons_zero, List.set_cons_succ]
      refine wpAnyH_done (by kernel_rfl) ?_ _
      go_wp2_with fail
      go_meet
      exact ⟨P8, f0, f1, f2, some b4, rfl, rfl, HF.out, hK8, hHeld⟩
    exact AllReadyH.nil
  obtain ⟨P8, f0, f1, f2, bo, rfl, rfl, hF, hk8, hch⟩ := hcut
  clear HC
  have HC := hid hch
  have HK8 := hid hk8
  have HF := hid hF
  obtain ⟨bf, hbf⟩ : ∃ b' : Bool, bo.getD false = b' := ⟨_, rfl⟩
  rw [hbf] at HF ⊢
  have t0 := hch.ck.cell 0
  have t1 := hch.ck.cell 1
  have t2 := hch.ck.cell 2
  clear hch hk8 hF hbf bo
  go_wp2_with fail
  refine (rfind_any _ _ _ _ z0 _ HC.out.lr).mono ?_
  rintro e w5 ⟨g0, g1, g2, b5, rfl, hF5, hb5⟩
  obtain ⟨hv, rfl⟩ := FndV.same HF.out hF5
  obtain ⟨rfl, rfl, rfl⟩ := agg3 hv
  have b6 := Below.on hb5 (bel_new w5 (.cells #[.int .i64 f0, .int .i64 f1, .int .i64 f2] 28))
  have HB : Hid (Cb w z0 z1 z2 s [(P5, y), (P4, x), (w.heap.size, a), (w.heap.size + 1, b)] P8 w5.heap.size f0 f1 f2 (w5.alloc (.cells #[.int .i64 f0, .int .i64 f1, .int .i64 f2] 28))) := ⟨HC.out.on b6, HK8.out.on b6, bk_new w5 _ _⟩
  clear hF5 hb5 hv b6 HC HK8 HF t0 t1 t2
  obtain ⟨nn, hnn⟩ : ∃ nn, non a.q = nn := ⟨_, rfl⟩
  obtain ⟨sn, hsn⟩ : ∃ sn, sm a.q b.q = sn := ⟨_, rfl⟩
  have C18 : Hid (∀ u, Cb w z0 z1 z2 s [(P5, y), (P4, x), (w.heap.size, a), (w.heap.size + 1, b)] P8 w5.heap.size f0 f1 f2 u → Calls Try.prog 17 #[.agg #[.bool x.at_, .int .i64 x.buf, .slice x.dm.a x.dm.n x.dm.c, .slice x.fr.a x.fr.n x.fr.c, .bool x.inp, .bool x.all, .slice x.rg.a x.rg.n x.rg.c, .bool x.ord, .slice x.od.a x.od.n x.od.c, .slice x.pl.a x.pl.n x.pl.c]] u fun e w' => e = .returned (.bool nn) ∧ RowKit.Below u.heap.size u w') := fun u h => by
    have := none_any x u (h.ca.ch.res (P4, x) (by simp)).2
    rw [QX.out, hnn] at this
    exact this
  have C20 : Hid (∀ u, Cb w z0 z1 z2 s [(P5, y), (P4, x), (w.heap.size, a), (w.heap.size + 1, b)] P8 w5.heap.size f0 f1 f2 u → Calls Try.prog 18 #[.agg #[.bool a.at_, .int .i64 a.buf, .slice a.dm.a a.dm.n a.dm.c, .slice a.fr.a a.fr.n a.fr.c, .bool a.inp, .bool a.all, .slice a.rg.a a.rg.n a.rg.c, .bool a.ord, .slice a.od.a a.od.n a.od.c, .slice a.pl.a a.pl.n a.pl.c]] u fun e w' => e = .returned (.bool nn) ∧ RowKit.Below u.heap.size u w') := fun u h => by
    have := rnone_any a u (h.ca.ch.res (w.heap.size, a) (by simp)).2
    rw [hnn] at this
    exact this
  have C26 : Hid (∀ u, Cb w z0 z1 z2 s [(P5, y), (P4, x), (w.heap.size, a), (w.heap.size + 1, b)] P8 w5.heap.size f0 f1 f2 u → Calls Try.prog 19 #[.agg #[.bool x.at_, .int .i64 x.buf, .slice x.dm.a x.dm.n x.dm.c, .slice x.fr.a x.fr.n x.fr.c, .bool x.inp, .bool x.all, .slice x.rg.a x.rg.n x.rg.c, .bool x.ord, .slice x.od.a x.od.n x.od.c, .slice x.pl.a x.pl.n x.pl.c], .agg #[.bool y.at_, .int .i64 y.buf, .slice y.dm.a y.dm.n y.dm.c, .slice y.fr.a y.fr.n y.fr.c, .bool y.inp, .bool y.all, .slice y.rg.a y.rg.n y.rg.c, .bool y.ord, .slice y.od.a y.od.n y.od.c, .slice y.pl.a y.pl.n y.pl.c]] u fun e w' => e = .returned (.bool sn) ∧ RowKit.Below u.heap.size u w') := fun u h => by
    have := same_any x y u (h.ca.ch.res (P4, x) (by simp)).2 (h.ca.ch.res (P5, y) (by simp)).2
    rw [QX.out, QY.out, hsn] at this
    exact this
  have C29 : Hid (∀ u, Cb w z0 z1 z2 s [(P5, y), (P4, x), (w.heap.size, a), (w.heap.size + 1, b)] P8 w5.heap.size f0 f1 f2 u → Calls Try.prog 12 #[.agg #[.bool a.at_, .int .i64 a.buf, .slice a.dm.a a.dm.n a.dm.c, .slice a.fr.a a.fr.n a.fr.c, .bool a.inp, .bool a.all, .slice a.rg.a a.rg.n a.rg.c, .bool a.ord, .slice a.od.a a.od.n a.od.c, .slice a.pl.a a.pl.n a.pl.c], .agg #[.bool b.at_, .int .i64 b.buf, .slice b.dm.a b.dm.n b.dm.c, .slice b.fr.a b.fr.n b.fr.c, .bool b.inp, .bool b.all, .slice b.rg.a b.rg.n b.rg.c, .bool b.ord, .slice b.od.a b.od.n b.od.c, .slice b.pl.a b.pl.n b.pl.c]] u fun e w' => e = .returned (.bool sn) ∧ RowKit.Below u.heap.size u w') := fun u h => by
    have := rsame_any a b u (h.ca.ch.res (w.heap.size, a) (by simp)).2 (h.ca.ch.res (w.heap.size + 1, b) (by simp)).2
    rw [hsn] at this
    exact this
  have C55 : Hid (∀ u, Cb w z0 z1 z2 s [(P5, y), (P4, x), (w.heap.size, a), (w.heap.size + 1, b)] P8 w5.heap.size f0 f1 f2 u → Calls Try.prog 12 #[.agg #[.bool x.at_, .int .i64 x.buf, .slice x.dm.a x.dm.n x.dm.c, .slice x.fr.a x.fr.n x.fr.c, .bool x.inp, .bool x.all, .slice x.rg.a x.rg.n x.rg.c, .bool x.ord, .slice x.od.a x.od.n x.od.c, .slice x.pl.a x.pl.n x.pl.c], .agg #[.bool a.at_, .int .i64 a.buf, .slice a.dm.a a.dm.n a.dm.c, .slice a.fr.a a.fr.n a.fr.c, .bool a.inp, .bool a.all, .slice a.rg.a a.rg.n a.rg.c, .bool a.ord, .slice a.od.a a.od.n a.od.c, .slice a.pl.a a.pl.n a.pl.c]] u fun e w' => e = .returned (.bool true) ∧ RowKit.Below u.heap.size u w') := fun u h => by
    have := rsame_any x a u (h.ca.ch.res (P4, x) (by simp)).2 (h.ca.ch.res (w.heap.size, a) (by simp)).2
    rw [QX.out, sm_same] at this
    exact this
  have C60 : Hid (∀ u, Cb w z0 z1 z2 s [(P5, y), (P4, x), (w.heap.size, a), (w.heap.size + 1, b)] P8 w5.heap.size f0 f1 f2 u → Calls Try.prog 12 #[.agg #[.bool y.at_, .int .i64 y.buf, .slice y.dm.a y.dm.n y.dm.c, .slice y.fr.a y.fr.n y.fr.c, .bool y.inp, .bool y.all, .slice y.rg.a y.rg.n y.rg.c, .bool y.ord, .slice y.od.a y.od.n y.od.c, .slice y.pl.a y.pl.n y.pl.c], .agg #[.bool b.at_, .int .i64 b.buf, .slice b.dm.a b.dm.n b.dm.c, .slice b.fr.a b.fr.n b.fr.c, .bool b.inp, .bool b.all, .slice b.rg.a b.rg.n b.rg.c, .bool b.ord, .slice b.od.a b.od.n b.od.c, .slice b.pl.a b.pl.n b.pl.c]] u fun e w' => e = .returned (.bool true) ∧ RowKit.Below u.heap.size u w') := fun u h => by
    have := rsame_any y b u (h.ca.ch.res (P5, y) (by simp)).2 (h.ca.ch.res (w.heap.size + 1, b) (by simp)).2
    rw [QY.out, sm_same] at this
    exact this
  have LA1 := hid (len_mono LA.out (show 60 ≤ 1000 by omega))
  have LB1 := hid (len_mono LB.out (show 60 ≤ 1000 by omega))
  have LX1 := hid (len_mono LX.out (show 60 ≤ 1000 by omega))
  have LY1 := hid (len_mono LY.out (show 60 ≤ 1000 by omega))
  have hn1' : (nn == nn) = true := by simp
  have hs1' : (sn == sn) = true := by simp
  have hb1' : (bf == bf) = true := by simp
  have hff : leq [f0, f1, f2] [f0, f1, f2] = true := decide_eq_true rfl
  have g3 := eqlM3_guard
  have q3 := eqlM3
  clear hnn hsn LA LB LX LY
  go_upto_region 6 with fail
  refine swap_ops (ops' := opsA6) (by kernel_rfl) ?_
  refine wp_region_held_drew (S := Cb w z0 z1 z2 s [(P5, y), (P4, x), (w.heap.size, a), (w.heap.size + 1, b)] P8 w5.heap.size f0 f1 f2) (by kernel_rfl) ?hh (fun hHeld => ?_)
  case hh => exact (HB.out.on (Below.refl _ _).drew)
  generalize World.drew _ = W0 at hHeld ⊢
  try dsimp only at hHeld
  refine wpAnyH_take (i := 0) (v := ?_) (oi := { dst := some 48, op := Op.load 26 (Operand.tmp 9), type := 26, pos := "law.go:30", after := #[], guard := none }) (by kernel_rfl) (by kernel_rfl) (by kernel_rfl) (by kernel_rfl) (fun _ _ _ h => h) (Or.inl ⟨by kernel_rfl, ?hy0⟩) (by assumption) ?_
  case hy0 => (intro wI hSw; (try dsimp only at hSw); obtain ⟨q0a, q0b, q0c, q0d, q0e, q0f, q0g, q0h, q0i, q0j⟩ := (hSw.ca.ch.res (P4, x) (by simp)).1.all; obtain ⟨q1a, q1b, q1c, q1d, q1e, q1f, q1g, q1h, q1i, q1j⟩ := (hSw.ca.ch.res (P5, y) (by simp)).1.all; obtain ⟨q2a, q2b, q2c, q2d, q2e, q2f, q2g, q2h, q2i, q2j⟩ := (hSw.ca.ch.res (w.heap.size, a) (by simp)).1.all; obtain ⟨q3a, q3b, q3c, q3d, q3e, q3f, q3g, q3h, q3i, q3j⟩ := (hSw.ca.ch.res (w.heap.size + 1, b) (by simp)).1.all; have t0 := hSw.ca.ck.cell 0; have t1 := hSw.ca.ck.cell 1; have t2 := hSw.ca.ck.cell 2; have k0 := hSw.k8.cell 0; have k1 := hSw.k8.cell 1; have k2 := hSw.k8.cell 2; have j0 := hSw.k13.cell 0; have j1 := hSw.k13.cell 1; have j2 := hSw.k13.cell 2; go_simp; try with_reducible rfl)
  try simp only [Act.put, List.setIfInBounds_toArray, List.set_cons_zero, List.set_cons_succ]
  refine wpAnyH_take (i := 1) (v := ?_) (oi := { dst := some 49, op := Op.load 26 (Operand.tmp 10), type := 26, pos := "law.go:30", after := #[], guard := none }) (by kernel_rfl) (by kernel_rfl) (by kernel_rfl) (by kernel_rfl) (fun _ _ _ h => h) (Or.inl ⟨by kernel_rfl, ?hy1⟩) (by assumption) ?_
  case hy1 => (intro wI hSw; (try dsimp only at hSw); obtain ⟨q0a, q0b, q0c, q0d, q0e, q0f, q0g, q0h, q0i, q0j⟩ := (hSw.ca.ch.res (P4, x) (by simp)).1.all; obtain ⟨q1a, q1b, q1c, q1d, q1e, q1f, q1g, q1h, q1i, q1j⟩ := (hSw.ca.ch.res (P5, y) (by simp)).1.all; obtain ⟨q2a, q2b, q2c, q2d, q2e, q2f, q2g, q2h, q2i, q2j⟩ := (hSw.ca.ch.res (w.heap.size, a) (by simp)).1.all; obtain ⟨q3a, q3b, q3c, q3d, q3e, q3f, q3g, q3h, q3i, q3j⟩ := (hSw.ca.ch.res (w.heap.size + 1, b) (by simp)).1.all; have t0 := hSw.ca.ck.cell 0; have t1 := hSw.ca.ck.cell 1; have t2 := hSw.ca.ck.cell 2; have k0 := hSw.k8.cell 0; have k1 := hSw.k8.cell 1; have k2 := hSw.k8.cell 2; have j0 := hSw.k13.cell 0; have j1 := hSw.k13.cell 1; have j2 := hSw.k13.cell 2; go_simp; try with_reducible rfl)
  try simp only [Act.put, List.setIfInBounds_toArray, List.set_cons_zero, List.set_cons_succ]
  refine wpAnyH_take (i := 3) (v := ?_) (oi := { dst := some 51, op := Op.load 26 (Operand.tmp 4), type := 26, pos := "law.go:30", after := #[], guard := none }) (by kernel_rfl) (by kernel_rfl) (by kernel_rfl) (by kernel_rfl) (fun _ _ _ h => h) (Or.inl ⟨by kernel_rfl, ?hy3⟩) (by assumption) ?_
  case hy3 => (intro wI hSw; (try dsimp only at hSw); obtain ⟨q0a, q0b, q0c, q0d, q0e, q0f, q0g, q0h, q0i, q0j⟩ := (hSw.ca.ch.res (P4, x) (by simp)).1.all; obtain ⟨q1a, q1b, q1c, q1d, q1e, q1f, q1g, q1h, q1i, q1j⟩ := (hSw.ca.ch.res (P5, y) (by simp)).1.all; obtain ⟨q2a, q2b, q2c, q2d, q2e, q2f, q2g, q2h, q2i, q2j⟩ := (hSw.ca.ch.res (w.heap.size, a) (by simp)).1.all; obtain ⟨q3a, q3b, q3c, q3d, q3e, q3f, q3g, q3h, q3i, q3j⟩ := (hSw.ca.ch.res (w.heap.size + 1, b) (by simp)).1.all; have t0 := hSw.ca.ck.cell 0; have t1 := hSw.ca.ck.cell 1; have t2 := hSw.ca.ck.cell 2; have k0 := hSw.k8.cell 0; have k1 := hSw.k8.cell 1; have k2 := hSw.k8.cell 2; have j0 := hSw.k13.cell 0; have j1 := hSw.k13.cell 1; have j2 := hSw.k13.cell 2; go_simp; try with_reducible rfl)
  try simp only [Act.put, List.setIfInBounds_toArray, List.set_cons_zero, List.set_cons_succ]
  refine wpAnyH_take (i := 4) (v := ?_) (oi := { dst := some 52, op := Op.load 26 (Operand.tmp 5), type := 26, pos := "law.go:30", after := #[], guard := none }) (by kernel_rfl) (by kernel_rfl) (by kernel_rfl) (by kernel_rfl) (fun _ _ _ h => h) (Or.inl ⟨by kernel_rfl, ?hy4⟩) (by assumption) ?_
  case hy4 => (intro wI hSw; (try dsimp only at hSw); obtain ⟨q0a, q0b, q0c, q0d, q0e, q0f, q0g, q0h, q0i, q0j⟩ := (hSw.ca.ch.res (P4, x) (by simp)).1.all; obtain ⟨q1a, q1b, q1c, q1d, q1e, q1f, q1g, q1h, q1i, q1j⟩ := (hSw.ca.ch.res (P5, y) (by simp)).1.all; obtain ⟨q2a, q2b, q2c, q2d, q2e, q2f, q2g, q2h, q2i, q2j⟩ := (hSw.ca.ch.res (w.heap.size, a) (by simp)).1.all; obtain ⟨q3a, q3b, q3c, q3d, q3e, q3f, q3g, q3h, q3i, q3j⟩ := (hSw.ca.ch.res (w.heap.size + 1, b) (by simp)).1.all; have t0 := hSw.ca.ck.cell 0; have t1 := hSw.ca.ck.cell 1; have t2 := hSw.ca.ck.cell 2; have k0 := hSw.k8.cell 0; have k1 := hSw.k8.cell 1; have k2 := hSw.k8.cell 2; have j0 := hSw.k13.cell 0; have j1 := hSw.k13.cell 1; have j2 := hSw.k13.cell 2; go_simp; try with_reducible rfl)
  try simp only [Act.put, List.setIfInBounds_toArray, List.set_cons_zero, List.set_cons_succ]
  refine wpAnyH_ready (rs := [2]) (by kernel_rfl) (by simp) ?_
  refine AllReadyH.cons (o := { dst := some 50, op := Op.call { callee := Callee.value (Operand.func 13), args := #[Operand.tmp 48, Operand.tmp 49], argTypes := #[26, 26] }, type := 26, pos := "law.go:30", after := #[{ on := 0, ground := Ground.data }, { on := 1, ground := Ground.data }], guard := none }) (by kernel_rfl) (fun K hK => ?_) AllReadyH.nil
  rw [if_pos (by kernel_rfl)]
  go_simp
  go_wp2_with fail
  refine (merge_any x y _ (hHeld.ca.ch.res (P4, x) (by simp)).2 (hHeld.ca.ch.res (P5, y) (by simp)).2 LX1.out LY1.out).mono ?_
  rintro e W2 ⟨r2, rfl, okr, -, hqr, hb⟩
  rw [QX.out, QY.out] at hqr
  try replace O2 := hid (O2.out.on hb)
  try replace O5 := hid (O5.out.on hb)
  try replace O10 := hid (O10.out.on hb)
  try replace O13 := hid (O13.out.on hb)
  try replace R44 := hid (R44.out.on hb)
  try replace R46 := hid (R46.out.on hb)
  try replace R49 := hid (R49.out.on hb)
  have O2 := hid okr
  have Q2 := hid hqr
  have hM := hHeld.on hb
  refine hK.out _ _ hM (fun _ => ?_)
  clear hK K hHeld hb okr hqr
  have hHeld := hM
  clear hM
  try simp only [Act.put, List.setIfInBounds_toArray, List.set_cons_zero, List.set_cons_succ]
  refine wpAnyH_ready (rs := [5]) (by kernel_rfl) (by simp) ?_
  refine AllReadyH.cons (o := { dst := some 53, op := Op.call { callee := Callee.value (Operand.func 14), args := #[Operand.tmp 51, Operand.tmp 52], argTypes := #[26, 26] }, type := 26, pos := "law.go:30", after := #[{ on := 3, ground := Ground.data }, { on := 4, ground := Ground.data }, { on := 2, ground := Ground.chain }], guard := none }) (by kernel_rfl) (fun K hK => ?_) AllReadyH.nil
  rw [if_pos (by kernel_rfl)]
  go_simp
  go_wp2_with fail
  refine (rmerge_any a b _ (hHeld.ca.ch.res (w.heap.size, a) (by simp)).2 (hHeld.ca.ch.res (w.heap.size + 1, b) (by simp)).2 LA1.out LB1.out).mono ?_
  rintro e W5 ⟨r5, rfl, okr, -, hqr, hb⟩
  skip
  try replace O2 := hid (O2.out.on hb)
  try replace O5 := hid (O5.out.on hb)
  try replace O10 := hid (O10.out.on hb)
  try replace O13 := hid (O13.out.on hb)
  try replace R44 := hid (R44.out.on hb)
  try replace R46 := hid (R46.out.on hb)
  try replace R49 := hid (R49.out.on hb)
  have O5 := hid okr
  have Q5 := hid hqr
  have hM := hHeld.on hb
  refine hK.out _ _ hM (fun _ => ?_)
  clear hK K hHeld hb okr hqr
  have hHeld := hM
  clear hM
  try simp only [Act.put, List.setIfInBounds_toArray, List.set_cons_zero, List.set_cons_succ]
  refine wpAnyH_ready (rs := [6]) (by kernel_rfl) (by simp) ?_
  refine AllReadyH.cons (o := { dst := some 54, op := Op.call { callee := Callee.value (Operand.func 12), args := #[Operand.tmp 50, Operand.tmp 53], argTypes := #[26, 26] }, type := 4, pos := "law.go:30", after := #[{ on := 2, ground := Ground.data }, { on := 5, ground := Ground.data }, { on := 5, ground := Ground.chain }], guard := none }) (by kernel_rfl) (fun K hK => ?_) AllReadyH.nil
  rw [if_pos (by kernel_rfl)]
  have C := rsame_any r2 r5 _ O2.out O5.out
  rw [Q2.out, Q5.out, sm_same] at C
  have HCC := hid C
  clear C
  go_simp
  go_wp2_with fail
  refine (HCC.out).mono ?_
  rintro e W6 ⟨rfl, hb⟩
  try replace O2 := hid (O2.out.on hb)
  try replace O5 := hid (O5.out.on hb)
  try replace O10 := hid (O10.out.on hb)
  try replace O13 := hid (O13.out.on hb)
  try replace R44 := hid (R44.out.on hb)
  try replace R46 := hid (R46.out.on hb)
  try replace R49 := hid (R49.out.on hb)
  have hM := hHeld.on hb
  refine hK.out _ _ hM (fun _ => ?_)
  clear hK K hHeld hb
  have hHeld := hM
  clear hM
  clear HCC
  try simp only [Act.put, List.setIfInBounds_toArray, List.set_cons_zero, List.set_cons_succ]
  refine wpAnyH_take (i := 7) (v := ?_) (oi := { dst := some 55, op := Op.move (Operand.tmp 54), type := 4, pos := "law.go:30", after := #[{ on := 6, ground := Ground.data }, { on := 6, ground := Ground.chain }], guard := none }) (by kernel_rfl) (by kernel_rfl) (by kernel_rfl) (by kernel_rfl) (fun _ _ _ h => h) (Or.inl ⟨by kernel_rfl, ?hy7⟩) (by assumption) ?_
  case hy7 => (intro wI hSw; (try dsimp only at hSw); obtain ⟨q0a, q0b, q0c, q0d, q0e, q0f, q0g, q0h, q0i, q0j⟩ := (hSw.ca.ch.res (P4, x) (by simp)).1.all; obtain ⟨q1a, q1b, q1c, q1d, q1e, q1f, q1g, q1h, q1i, q1j⟩ := (hSw.ca.ch.res (P5, y) (by simp)).1.all; obtain ⟨q2a, q2b, q2c, q2d, q2e, q2f, q2g, q2h, q2i, q2j⟩ := (hSw.ca.ch.res (w.heap.size, a) (by simp)).1.all; obtain ⟨q3a, q3b, q3c, q3d, q3e, q3f, q3g, q3h, q3i, q3j⟩ := (hSw.ca.ch.res (w.heap.size + 1, b) (by simp)).1.all; have t0 := hSw.ca.ck.cell 0; have t1 := hSw.ca.ck.cell 1; have t2 := hSw.ca.ck.cell 2; have k0 := hSw.k8.cell 0; have k1 := hSw.k8.cell 1; have k2 := hSw.k8.cell 2; have j0 := hSw.k13.cell 0; have j1 := hSw.k13.cell 1; have j2 := hSw.k13.cell 2; go_simp; try with_reducible rfl)
  try simp only [Act.put, List.setIfInBounds_toArray, List.set_cons_zero, List.set_cons_succ]
  refine wpAnyH_take (i := 8) (v := ?_) (oi := { dst := some 56, op := Op.load 26 (Operand.tmp 9), type := 26, pos := "law.go:30", after := #[{ on := 7, ground := Ground.guard }], guard := some (7, true) }) (by kernel_rfl) (by kernel_rfl) (by kernel_rfl) (by kernel_rfl) (fun _ _ _ h => h) (Or.inl ⟨by kernel_rfl, ?hy8⟩) (by assumption) ?_
  case hy8 => (intro wI hSw; (try dsimp only at hSw); obtain ⟨q0a, q0b, q0c, q0d, q0e, q0f, q0g, q0h, q0i, q0j⟩ := (hSw.ca.ch.res (P4, x) (by simp)).1.all; obtain ⟨q1a, q1b, q1c, q1d, q1e, q1f, q1g, q1h, q1i, q1j⟩ := (hSw.ca.ch.res (P5, y) (by simp)).1.all; obtain ⟨q2a, q2b, q2c, q2d, q2e, q2f, q2g, q2h, q2i, q2j⟩ := (hSw.ca.ch.res (w.heap.size, a) (by simp)).1.all; obtain ⟨q3a, q3b, q3c, q3d, q3e, q3f, q3g, q3h, q3i, q3j⟩ := (hSw.ca.ch.res (w.heap.size + 1, b) (by simp)).1.all; have t0 := hSw.ca.ck.cell 0; have t1 := hSw.ca.ck.cell 1; have t2 := hSw.ca.ck.cell 2; have k0 := hSw.k8.cell 0; have k1 := hSw.k8.cell 1; have k2 := hSw.k8.cell 2; have j0 := hSw.k13.cell 0; have j1 := hSw.k13.cell 1; have j2 := hSw.k13.cell 2; go_simp; try with_reducible rfl)
  try simp only [Act.put, List.setIfInBounds_toArray, List.set_cons_zero, List.set_cons_succ]
  refine wpAnyH_take (i := 9) (v := ?_) (oi := { dst := some 57, op := Op.load 26 (Operand.tmp 10), type := 26, pos := "law.go:30", after := #[{ on := 7, ground := Ground.guard }], guard := some (7, true) }) (by kernel_rfl) (by kernel_rfl) (by kernel_rfl) (by kernel_rfl) (fun _ _ _ h => h) (Or.inl ⟨by kernel_rfl, ?hy9⟩) (by assumption) ?_
  case hy9 => (intro wI hSw; (try dsimp only at hSw); obtain ⟨q0a, q0b, q0c, q0d, q0e, q0f, q0g, q0h, q0i, q0j⟩ := (hSw.ca.ch.res (P4, x) (by simp)).1.all; obtain ⟨q1a, q1b, q1c, q1d, q1e, q1f, q1g, q1h, q1i, q1j⟩ := (hSw.ca.ch.res (P5, y) (by simp)).1.all; obtain ⟨q2a, q2b, q2c, q2d, q2e, q2f, q2g, q2h, q2i, q2j⟩ := (hSw.ca.ch.res (w.heap.size, a) (by simp)).1.all; obtain ⟨q3a, q3b, q3c, q3d, q3e, q3f, q3g, q3h, q3i, q3j⟩ := (hSw.ca.ch.res (w.heap.size + 1, b) (by simp)).1.all; have t0 := hSw.ca.ck.cell 0; have t1 := hSw.ca.ck.cell 1; have t2 := hSw.ca.ck.cell 2; have k0 := hSw.k8.cell 0; have k1 := hSw.k8.cell 1; have k2 := hSw.k8.cell 2; have j0 := hSw.k13.cell 0; have j1 := hSw.k13.cell 1; have j2 := hSw.k13.cell 2; go_simp; try with_reducible rfl)
  try simp only [Act.put, List.setIfInBounds_toArray, List.set_cons_zero, List.set_cons_succ]
  refine wpAnyH_take (i := 11) (v := ?_) (oi := { dst := some 59, op := Op.load 26 (Operand.tmp 4), type := 26, pos := "law.go:30", after := #[{ on := 7, ground := Ground.guard }], guard := some (7, true) }) (by kernel_rfl) (by kernel_rfl) (by kernel_rfl) (by kernel_rfl) (fun _ _ _ h => h) (Or.inl ⟨by kernel_rfl, ?hy11⟩) (by assumption) ?_
  case hy11 => (intro wI hSw; (try dsimp only at hSw); obtain ⟨q0a, q0b, q0c, q0d, q0e, q0f, q0g, q0h, q0i, q0j⟩ := (hSw.ca.ch.res (P4, x) (by simp)).1.all; obtain ⟨q1a, q1b, q1c, q1d, q1e, q1f, q1g, q1h, q1i, q1j⟩ := (hSw.ca.ch.res (P5, y) (by simp)).1.all; obtain ⟨q2a, q2b, q2c, q2d, q2e, q2f, q2g, q2h, q2i, q2j⟩ := (hSw.ca.ch.res (w.heap.size, a) (by simp)).1.all; obtain ⟨q3a, q3b, q3c, q3d, q3e, q3f, q3g, q3h, q3i, q3j⟩ := (hSw.ca.ch.res (w.heap.size + 1, b) (by simp)).1.all; have t0 := hSw.ca.ck.cell 0; have t1 := hSw.ca.ck.cell 1; have t2 := hSw.ca.ck.cell 2; have k0 := hSw.k8.cell 0; have k1 := hSw.k8.cell 1; have k2 := hSw.k8.cell 2; have j0 := hSw.k13.cell 0; have j1 := hSw.k13.cell 1; have j2 := hSw.k13.cell 2; go_simp; try with_reducible rfl)
  try simp only [Act.put, List.setIfInBounds_toArray, List.set_cons_zero, List.set_cons_succ]
  refine wpAnyH_take (i := 12) (v := ?_) (oi := { dst := some 60, op := Op.load 26 (Operand.tmp 5), type := 26, pos := "law.go:30", after := #[{ on := 7, ground := Ground.guard }], guard := some (7, true) }) (by kernel_rfl) (by kernel_rfl) (by kernel_rfl) (by kernel_rfl) (fun _ _ _ h => h) (Or.inl ⟨by kernel_rfl, ?hy12⟩) (by assumption) ?_
  case hy12 => (intro wI hSw; (try dsimp only at hSw); obtain ⟨q0a, q0b, q0c, q0d, q0e, q0f, q0g, q0h, q0i, q0j⟩ := (hSw.ca.ch.res (P4, x) (by simp)).1.all; obtain ⟨q1a, q1b, q1c, q1d, q1e, q1f, q1g, q1h, q1i, q1j⟩ := (hSw.ca.ch.res (P5, y) (by simp)).1.all; obtain ⟨q2a, q2b, q2c, q2d, q2e, q2f, q2g, q2h, q2i, q2j⟩ := (hSw.ca.ch.res (w.heap.size, a) (by simp)).1.all; obtain ⟨q3a, q3b, q3c, q3d, q3e, q3f, q3g, q3h, q3i, q3j⟩ := (hSw.ca.ch.res (w.heap.size + 1, b) (by simp)).1.all; have t0 := hSw.ca.ck.cell 0; have t1 := hSw.ca.ck.cell 1; have t2 := hSw.ca.ck.cell 2; have k0 := hSw.k8.cell 0; have k1 := hSw.k8.cell 1; have k2 := hSw.k8.cell 2; have j0 := hSw.k13.cell 0; have j1 := hSw.k13.cell 1; have j2 := hSw.k13.cell 2; go_simp; try with_reducible rfl)
  try simp only [Act.put, List.setIfInBounds_toArray, List.set_cons_zero, List.set_cons_succ]
  refine wpAnyH_ready (rs := [10]) (by kernel_rfl) (by simp) ?_
  refine AllReadyH.cons (o := { dst := some 58, op := Op.call { callee := Callee.value (Operand.func 15), args := #[Operand.tmp 56, Operand.tmp 57], argTypes := #[26, 26] }, type := 26, pos := "law.go:30", after := #[{ on := 8, ground := Ground.data }, { on := 9, ground := Ground.data }, { on := 7, ground := Ground.chain }, { on := 7, ground := Ground.guard }], guard := some (7, true) }) (by kernel_rfl) (fun K hK => ?_) AllReadyH.nil
  rw [if_pos (by kernel_rfl)]
  go_simp
  go_wp2_with fail
  refine (apply_any x y _ (hHeld.ca.ch.res (P4, x) (by simp)).2 (hHeld.ca.ch.res (P5, y) (by simp)).2 LX1.out LY1.out).mono ?_
  rintro e W10 ⟨r10, rfl, okr, -, hqr, hb⟩
  rw [QX.out, QY.out] at hqr
  try replace O2 := hid (O2.out.on hb)
  try replace O5 := hid (O5.out.on hb)
  try replace O10 := hid (O10.out.on hb)
  try replace O13 := hid (O13.out.on hb)
  try replace R44 := hid (R44.out.on hb)
  try replace R46 := hid (R46.out.on hb)
  try replace R49 := hid (R49.out.on hb)
  have O10 := hid okr
  have Q10 := hid hqr
  have hM := hHeld.on hb
  refine hK.out _ _ hM (fun _ => ?_)
  clear hK K hHeld hb okr hqr
  have hHeld := hM
  clear hM
  try simp only [Act.put, List.setIfInBounds_toArray, List.set_cons_zero, List.set_cons_succ]
  refine wpAnyH_ready (rs := [13]) (by kernel_rfl) (by simp) ?_
  refine AllReadyH.cons (o := { dst := some 61, op := Op.call { callee := Callee.value (Operand.func 16), args := #[Operand.tmp 59, Operand.tmp 60], argTypes := #[26, 26] }, type := 26, pos := "law.go:30", after := #[{ on := 11, ground := Ground.data }, { on := 12, ground := Ground.data }, { on := 10, ground := Ground.chain }, { on := 7, ground := Ground.guard }], guard := some (7, true) }) (by kernel_rfl) (fun K hK => ?_) AllReadyH.nil
  rw [if_pos (by kernel_rfl)]
  go_simp
  go_wp2_with fail
  refine (rapply_any a b _ (hHeld.ca.ch.res (w.heap.size, a) (by simp)).2 (hHeld.ca.ch.res (w.heap.size + 1, b) (by simp)).2 LA1.out LB1.out).mono ?_
  rintro e W13 ⟨r13, rfl, okr, -, hqr, hb⟩
  skip
  try replace O2 := hid (O2.out.on hb)
  try replace O5 := hid (O5.out.on hb)
  try replace O10 := hid (O10.out.on hb)
  try replace O13 := hid (O13.out.on hb)
  try replace R44 := hid (R44.out.on hb)
  try replace R46 := hid (R46.out.on hb)
  try replace R49 := hid (R49.out.on hb)
  have O13 := hid okr
  have Q13 := hid hqr
  have hM := hHeld.on hb
  refine hK.out _ _ hM (fun _ => ?_)
  clear hK K hHeld hb okr hqr
  have hHeld := hM
  clear hM
  try simp only [Act.put, List.setIfInBounds_toArray, List.set_cons_zero, List.set_cons_succ]
  refine wpAnyH_ready (rs := [14]) (by kernel_rfl) (by simp) ?_
  refine AllReadyH.cons (o := { dst := some 62, op := Op.call { callee := Callee.value (Operand.func 12), args := #[Operand.tmp 58, Operand.tmp 61], argTypes := #[26, 26] }, type := 4, pos := "law.go:30", after := #[{ on := 10, ground := Ground.data }, { on := 13, ground := Ground.data }, { on := 13, ground := Ground.chain }, { on := 7, ground := Ground.guard }], guard := some (7, true) }) (by kernel_rfl) (fun K hK => ?_) AllReadyH.nil
  rw [if_pos (by kernel_rfl)]
  have C := rsame_any r10 r13 _ O10.out O13.out
  rw [Q10.out, Q13.out, sm_same] at C
  have HCC := hid C
  clear C
  go_simp
  go_wp2_with fail
  refine (HCC.out).mono ?_
  rintro e W14 ⟨rfl, hb⟩
  try replace O2 := hid (O2.out.on hb)
  try replace O5 := hid (O5.out.on hb)
  try replace O10 := hid (O10.out.on hb)
  try replace O13 := hid (O13.out.on hb)
  try replace R44 := hid (R44.out.on hb)
  try replace R46 := hid (R46.out.on hb)
  try replace R49 := hid (R49.out.on hb)
  have hM := hHeld.on hb
  refine hK.out _ _ hM (fun _ => ?_)
  clear hK K hHeld hb
  have hHeld := hM
  clear hM
  clear HCC
  try simp only [Act.put, List.setIfInBounds_toArray, List.set_cons_zero, List.set_cons_succ]
  refine wpAnyH_take (i := 15) (v := ?_) (oi := { dst := some 63, op := Op.pick (Operand.tmp 55) (Operand.tmp 62) (Operand.const (Value.bool false)), type := 4, pos := "law.go:30", after := #[{ on := 7, ground := Ground.data }, { on := 14, ground := Ground.data }], guard := none }) (by kernel_rfl) (by kernel_rfl) (by kernel_rfl) (by kernel_rfl) (fun _ _ _ h => h) (Or.inl ⟨by kernel_rfl, ?hy15⟩) (by assumption) ?_
  case hy15 => (intro wI hSw; (try dsimp only at hSw); obtain ⟨q0a, q0b, q0c, q0d, q0e, q0f, q0g, q0h, q0i, q0j⟩ := (hSw.ca.ch.res (P4, x) (by simp)).1.all; obtain ⟨q1a, q1b, q1c, q1d, q1e, q1f, q1g, q1h, q1i, q1j⟩ := (hSw.ca.ch.res (P5, y) (by simp)).1.all; obtain ⟨q2a, q2b, q2c, q2d, q2e, q2f, q2g, q2h, q2i, q2j⟩ := (hSw.ca.ch.res (w.heap.size, a) (by simp)).1.all; obtain ⟨q3a, q3b, q3c, q3d, q3e, q3f, q3g, q3h, q3i, q3j⟩ := (hSw.ca.ch.res (w.heap.size + 1, b) (by simp)).1.all; have t0 := hSw.ca.ck.cell 0; have t1 := hSw.ca.ck.cell 1; have t2 := hSw.ca.ck.cell 2; have k0 := hSw.k8.cell 0; have k1 := hSw.k8.cell 1; have k2 := hSw.k8.cell 2; have j0 := hSw.k13.cell 0; have j1 := hSw.k13.cell 1; have j2 := hSw.k13.cell 2; go_simp; try with_reducible rfl)
  try simp only [Act.put, List.setIfInBounds_toArray, List.set_cons_zero, List.set_cons_succ]
  refine wpAnyH_take (i := 16) (v := ?_) (oi := { dst := some 64, op := Op.move (Operand.tmp 63), type := 4, pos := "law.go:30", after := #[{ on := 15, ground := Ground.data }, { on := 14, ground := Ground.chain }], guard := none }) (by kernel_rfl) (by kernel_rfl) (by kernel_rfl) (by kernel_rfl) (fun _ _ _ h => h) (Or.inl ⟨by kernel_rfl, ?hy16⟩) (by assumption) ?_
  case hy16 => (intro wI hSw; (try dsimp only at hSw); obtain ⟨q0a, q0b, q0c, q0d, q0e, q0f, q0g, q0h, q0i, q0j⟩ := (hSw.ca.ch.res (P4, x) (by simp)).1.all; obtain ⟨q1a, q1b, q1c, q1d, q1e, q1f, q1g, q1h, q1i, q1j⟩ := (hSw.ca.ch.res (P5, y) (by simp)).1.all; obtain ⟨q2a, q2b, q2c, q2d, q2e, q2f, q2g, q2h, q2i, q2j⟩ := (hSw.ca.ch.res (w.heap.size, a) (by simp)).1.all; obtain ⟨q3a, q3b, q3c, q3d, q3e, q3f, q3g, q3h, q3i, q3j⟩ := (hSw.ca.ch.res (w.heap.size + 1, b) (by simp)).1.all; have t0 := hSw.ca.ck.cell 0; have t1 := hSw.ca.ck.cell 1; have t2 := hSw.ca.ck.cell 2; have k0 := hSw.k8.cell 0; have k1 := hSw.k8.cell 1; have k2 := hSw.k8.cell 2; have j0 := hSw.k13.cell 0; have j1 := hSw.k13.cell 1; have j2 := hSw.k13.cell 2; go_simp; try with_reducible rfl)
  try simp only [Act.put, List.setIfInBounds_toArray, List.set_cons_zero, List.set_cons_succ]
  refine wpAnyH_take (i := 17) (v := ?_) (oi := { dst := some 65, op := Op.load 26 (Operand.tmp 9), type := 26, pos := "law.go:30", after := #[{ on := 16, ground := Ground.guard }], guard := some (16, true) }) (by kernel_rfl) (by kernel_rfl) (by kernel_rfl) (by kernel_rfl) (fun _ _ _ h => h) (Or.inl ⟨by kernel_rfl, ?hy17⟩) (by assumption) ?_
  case hy17 => (intro wI hSw; (try dsimp only at hSw); obtain ⟨q0a, q0b, q0c, q0d, q0e, q0f, q0g, q0h, q0i, q0j⟩ := (hSw.ca.ch.res (P4, x) (by simp)).1.all; obtain ⟨q1a, q1b, q1c, q1d, q1e, q1f, q1g, q1h, q1i, q1j⟩ := (hSw.ca.ch.res (P5, y) (by simp)).1.all; obtain ⟨q2a, q2b, q2c, q2d, q2e, q2f, q2g, q2h, q2i, q2j⟩ := (hSw.ca.ch.res (w.heap.size, a) (by simp)).1.all; obtain ⟨q3a, q3b, q3c, q3d, q3e, q3f, q3g, q3h, q3i, q3j⟩ := (hSw.ca.ch.res (w.heap.size + 1, b) (by simp)).1.all; have t0 := hSw.ca.ck.cell 0; have t1 := hSw.ca.ck.cell 1; have t2 := hSw.ca.ck.cell 2; have k0 := hSw.k8.cell 0; have k1 := hSw.k8.cell 1; have k2 := hSw.k8.cell 2; have j0 := hSw.k13.cell 0; have j1 := hSw.k13.cell 1; have j2 := hSw.k13.cell 2; go_simp; try with_reducible rfl)
  try simp only [Act.put, List.setIfInBounds_toArray, List.set_cons_zero, List.set_cons_succ]
  refine wpAnyH_take (i := 19) (v := ?_) (oi := { dst := some 67, op := Op.load 26 (Operand.tmp 4), type := 26, pos := "law.go:30", after := #[{ on := 16, ground := Ground.guard }], guard := some (16, true) }) (by kernel_rfl) (by kernel_rfl) (by kernel_rfl) (by kernel_rfl) (fun _ _ _ h => h) (Or.inl ⟨by kernel_rfl, ?hy19⟩) (by assumption) ?_
  case hy19 => (intro wI hSw; (try dsimp only at hSw); obtain ⟨q0a, q0b, q0c, q0d, q0e, q0f, q0g, q0h, q0i, q0j⟩ := (hSw.ca.ch.res (P4, x) (by simp)).1.all; obtain ⟨q1a, q1b, q1c, q1d, q1e, q1f, q1g, q1h, q1i, q1j⟩ := (hSw.ca.ch.res (P5, y) (by simp)).1.all; obtain ⟨q2a, q2b, q2c, q2d, q2e, q2f, q2g, q2h, q2i, q2j⟩ := (hSw.ca.ch.res (w.heap.size, a) (by simp)).1.all; obtain ⟨q3a, q3b, q3c, q3d, q3e, q3f, q3g, q3h, q3i, q3j⟩ := (hSw.ca.ch.res (w.heap.size + 1, b) (by simp)).1.all; have t0 := hSw.ca.ck.cell 0; have t1 := hSw.ca.ck.cell 1; have t2 := hSw.ca.ck.cell 2; have k0 := hSw.k8.cell 0; have k1 := hSw.k8.cell 1; have k2 := hSw.k8.cell 2; have j0 := hSw.k13.cell 0; have j1 := hSw.k13.cell 1; have j2 := hSw.k13.cell 2; go_simp; try with_reducible rfl)
  try simp only [Act.put, List.setIfInBounds_toArray, List.set_cons_zero, List.set_cons_succ]
  refine wpAnyH_ready (rs := [18]) (by kernel_rfl) (by simp) ?_
  refine AllReadyH.cons (o := { dst := some 66, op := Op.call { callee := Callee.value (Operand.func 17), args := #[Operand.tmp 65], argTypes := #[26] }, type := 4, pos := "law.go:30", after := #[{ on := 17, ground := Ground.data }, { on := 16, ground := Ground.chain }, { on := 16, ground := Ground.guard }], guard := some (16, true) }) (by kernel_rfl) (fun K hK => ?_) AllReadyH.nil
  rw [if_pos (by kernel_rfl)]
  go_simp
  go_wp2_with fail
  refine (C18.out _ hHeld).mono ?_
  rintro e W18 ⟨rfl, hb⟩
  try replace O2 := hid (O2.out.on hb)
  try replace O5 := hid (O5.out.on hb)
  try replace O10 := hid (O10.out.on hb)
  try replace O13 := hid (O13.out.on hb)
  try replace R44 := hid (R44.out.on hb)
  try replace R46 := hid (R46.out.on hb)
  try replace R49 := hid (R49.out.on hb)
  have hM := hHeld.on hb
  refine hK.out _ _ hM (fun _ => ?_)
  clear hK K hHeld hb
  have hHeld := hM
  clear hM
  try simp only [Act.put, List.setIfInBounds_toArray, List.set_cons_zero, List.set_cons_succ]
  refine wpAnyH_ready (rs := [20]) (by kernel_rfl) (by simp) ?_
  refine AllReadyH.cons (o := { dst := some 68, op := Op.call { callee := Callee.value (Operand.func 18), args := #[Operand.tmp 67], argTypes := #[26] }, type := 4, pos := "law.go:30", after := #[{ on := 19, ground := Ground.data }, { on := 18, ground := Ground.chain }, { on := 16, ground := Ground.guard }], guard := some (16, true) }) (by kernel_rfl) (fun K hK => ?_) AllReadyH.nil
  rw [if_pos (by kernel_rfl)]
  go_simp
  go_wp2_with fail
  refine (C20.out _ hHeld).mono ?_
  rintro e W20 ⟨rfl, hb⟩
  try replace O2 := hid (O2.out.on hb)
  try replace O5 := hid (O5.out.on hb)
  try replace O10 := hid (O10.out.on hb)
  try replace O13 := hid (O13.out.on hb)
  try replace R44 := hid (R44.out.on hb)
  try replace R46 := hid (R46.out.on hb)
  try replace R49 := hid (R49.out.on hb)
  have hM := hHeld.on hb
  refine hK.out _ _ hM (fun _ => ?_)
  clear hK K hHeld hb
  have hHeld := hM
  clear hM
  try simp only [Act.put, List.setIfInBounds_toArray, List.set_cons_zero, List.set_cons_succ]
  refine wpAnyH_take (i := 21) (v := ?_) (oi := { dst := some 69, op := Op.binOp BinOp.eql 4 (Operand.tmp 66) (Operand.tmp 68) 4, type := 4, pos := "law.go:30", after := #[{ on := 18, ground := Ground.data }, { on := 20, ground := Ground.data }, { on := 16, ground := Ground.guard }], guard := some (16, true) }) (by kernel_rfl) (by kernel_rfl) (by kernel_rfl) (by kernel_rfl) (fun _ _ _ h => h) (Or.inl ⟨by kernel_rfl, ?hy21⟩) (by assumption) ?_
  case hy21 => (intro wI hSw; (try dsimp only at hSw); obtain ⟨q0a, q0b, q0c, q0d, q0e, q0f, q0g, q0h, q0i, q0j⟩ := (hSw.ca.ch.res (P4, x) (by simp)).1.all; obtain ⟨q1a, q1b, q1c, q1d, q1e, q1f, q1g, q1h, q1i, q1j⟩ := (hSw.ca.ch.res (P5, y) (by simp)).1.all; obtain ⟨q2a, q2b, q2c, q2d, q2e, q2f, q2g, q2h, q2i, q2j⟩ := (hSw.ca.ch.res (w.heap.size, a) (by simp)).1.all; obtain ⟨q3a, q3b, q3c, q3d, q3e, q3f, q3g, q3h, q3i, q3j⟩ := (hSw.ca.ch.res (w.heap.size + 1, b) (by simp)).1.all; have t0 := hSw.ca.ck.cell 0; have t1 := hSw.ca.ck.cell 1; have t2 := hSw.ca.ck.cell 2; have k0 := hSw.k8.cell 0; have k1 := hSw.k8.cell 1; have k2 := hSw.k8.cell 2; have j0 := hSw.k13.cell 0; have j1 := hSw.k13.cell 1; have j2 := hSw.k13.cell 2; go_simp; try with_reducible rfl)
  try simp only [Act.put, List.setIfInBounds_toArray, List.set_cons_zero, List.set_cons_succ]
  refine wpAnyH_take (i := 22) (v := ?_) (oi := { dst := some 70, op := Op.pick (Operand.tmp 64) (Operand.tmp 69) (Operand.const (Value.bool false)), type := 4, pos := "law.go:30", after := #[{ on := 16, ground := Ground.data }, { on := 21, ground := Ground.data }], guard := none }) (by kernel_rfl) (by kernel_rfl) (by kernel_rfl) (by kernel_rfl) (fun _ _ _ h => h) (Or.inl ⟨by kernel_rfl, ?hy22⟩) (by assumption) ?_
  case hy22 => (intro wI hSw; (try dsimp only at hSw); obtain ⟨q0a, q0b, q0c, q0d, q0e, q0f, q0g, q0h, q0i, q0j⟩ := (hSw.ca.ch.res (P4, x) (by simp)).1.all; obtain ⟨q1a, q1b, q1c, q1d, q1e, q1f, q1g, q1h, q1i, q1j⟩ := (hSw.ca.ch.res (P5, y) (by simp)).1.all; obtain ⟨q2a, q2b, q2c, q2d, q2e, q2f, q2g, q2h, q2i, q2j⟩ := (hSw.ca.ch.res (w.heap.size, a) (by simp)).1.all; obtain ⟨q3a, q3b, q3c, q3d, q3e, q3f, q3g, q3h, q3i, q3j⟩ := (hSw.ca.ch.res (w.heap.size + 1, b) (by simp)).1.all; have t0 := hSw.ca.ck.cell 0; have t1 := hSw.ca.ck.cell 1; have t2 := hSw.ca.ck.cell 2; have k0 := hSw.k8.cell 0; have k1 := hSw.k8.cell 1; have k2 := hSw.k8.cell 2; have j0 := hSw.k13.cell 0; have j1 := hSw.k13.cell 1; have j2 := hSw.k13.cell 2; go_simp; try with_reducible rfl)
  try simp only [Act.put, List.setIfInBounds_toArray, List.set_cons_zero, List.set_cons_succ]
  refine wpAnyH_take (i := 23) (v := ?_) (oi := { dst := some 71, op := Op.move (Operand.tmp 70), type := 4, pos := "law.go:30", after := #[{ on := 22, ground := Ground.data }, { on := 20, ground := Ground.chain }], guard := none }) (by kernel_rfl) (by kernel_rfl) (by kernel_rfl) (by kernel_rfl) (fun _ _ _ h => h) (Or.inl ⟨by kernel_rfl, ?hy23⟩) (by assumption) ?_
  case hy23 => (intro wI hSw; (try dsimp only at hSw); obtain ⟨q0a, q0b, q0c, q0d, q0e, q0f, q0g, q0h, q0i, q0j⟩ := (hSw.ca.ch.res (P4, x) (by simp)).1.all; obtain ⟨q1a, q1b, q1c, q1d, q1e, q1f, q1g, q1h, q1i, q1j⟩ := (hSw.ca.ch.res (P5, y) (by simp)).1.all; obtain ⟨q2a, q2b, q2c, q2d, q2e, q2f, q2g, q2h, q2i, q2j⟩ := (hSw.ca.ch.res (w.heap.size, a) (by simp)).1.all; obtain ⟨q3a, q3b, q3c, q3d, q3e, q3f, q3g, q3h, q3i, q3j⟩ := (hSw.ca.ch.res (w.heap.size + 1, b) (by simp)).1.all; have t0 := hSw.ca.ck.cell 0; have t1 := hSw.ca.ck.cell 1; have t2 := hSw.ca.ck.cell 2; have k0 := hSw.k8.cell 0; have k1 := hSw.k8.cell 1; have k2 := hSw.k8.cell 2; have j0 := hSw.k13.cell 0; have j1 := hSw.k13.cell 1; have j2 := hSw.k13.cell 2; go_simp; try with_reducible rfl)
  try simp only [Act.put, List.setIfInBounds_toArray, List.set_cons_zero, List.set_cons_succ]
  refine wpAnyH_take (i := 24) (v := ?_) (oi := { dst := some 72, op := Op.load 26 (Operand.tmp 9), type := 26, pos := "law.go:30", after := #[{ on := 23, ground := Ground.guard }], guard := some (23, true) }) (by kernel_rfl) (by kernel_rfl) (by kernel_rfl) (by kernel_rfl) (fun _ _ _ h => h) (Or.inl ⟨by kernel_rfl, ?hy24⟩) (by assumption) ?_
  case hy24 => (intro wI hSw; (try dsimp only at hSw); obtain ⟨q0a, q0b, q0c, q0d, q0e, q0f, q0g, q0h, q0i, q0j⟩ := (hSw.ca.ch.res (P4, x) (by simp)).1.all; obtain ⟨q1a, q1b, q1c, q1d, q1e, q1f, q1g, q1h, q1i, q1j⟩ := (hSw.ca.ch.res (P5, y) (by simp)).1.all; obtain ⟨q2a, q2b, q2c, q2d, q2e, q2f, q2g, q2h, q2i, q2j⟩ := (hSw.ca.ch.res (w.heap.size, a) (by simp)).1.all; obtain ⟨q3a, q3b, q3c, q3d, q3e, q3f, q3g, q3h, q3i, q3j⟩ := (hSw.ca.ch.res (w.heap.size + 1, b) (by simp)).1.all; have t0 := hSw.ca.ck.cell 0; have t1 := hSw.ca.ck.cell 1; have t2 := hSw.ca.ck.cell 2; have k0 := hSw.k8.cell 0; have k1 := hSw.k8.cell 1; have k2 := hSw.k8.cell 2; have j0 := hSw.k13.cell 0; have j1 := hSw.k13.cell 1; have j2 := hSw.k13.cell 2; go_simp; try with_reducible rfl)
  try simp only [Act.put, List.setIfInBounds_toArray, List.set_cons_zero, List.set_cons_succ]
  refine wpAnyH_take (i := 25) (v := ?_) (oi := { dst := some 73, op := Op.load 26 (Operand.tmp 10), type := 26, pos := "law.go:30", after := #[{ on := 23, ground := Ground.guard }], guard := some (23, true) }) (by kernel_rfl) (by kernel_rfl) (by kernel_rfl) (by kernel_rfl) (fun _ _ _ h => h) (Or.inl ⟨by kernel_rfl, ?hy25⟩) (by assumption) ?_
  case hy25 => (intro wI hSw; (try dsimp only at hSw); obtain ⟨q0a, q0b, q0c, q0d, q0e, q0f, q0g, q0h, q0i, q0j⟩ := (hSw.ca.ch.res (P4, x) (by simp)).1.all; obtain ⟨q1a, q1b, q1c, q1d, q1e, q1f, q1g, q1h, q1i, q1j⟩ := (hSw.ca.ch.res (P5, y) (by simp)).1.all; obtain ⟨q2a, q2b, q2c, q2d, q2e, q2f, q2g, q2h, q2i, q2j⟩ := (hSw.ca.ch.res (w.heap.size, a) (by simp)).1.all; obtain ⟨q3a, q3b, q3c, q3d, q3e, q3f, q3g, q3h, q3i, q3j⟩ := (hSw.ca.ch.res (w.heap.size + 1, b) (by simp)).1.all; have t0 := hSw.ca.ck.cell 0; have t1 := hSw.ca.ck.cell 1; have t2 := hSw.ca.ck.cell 2; have k0 := hSw.k8.cell 0; have k1 := hSw.k8.cell 1; have k2 := hSw.k8.cell 2; have j0 := hSw.k13.cell 0; have j1 := hSw.k13.cell 1; have j2 := hSw.k13.cell 2; go_simp; try with_reducible rfl)
  try simp only [Act.put, List.setIfInBounds_toArray, List.set_cons_zero, List.set_cons_succ]
  refine wpAnyH_take (i := 27) (v := ?_) (oi := { dst := some 75, op := Op.load 26 (Operand.tmp 4), type := 26, pos := "law.go:30", after := #[{ on := 23, ground := Ground.guard }], guard := some (23, true) }) (by kernel_rfl) (by kernel_rfl) (by kernel_rfl) (by kernel_rfl) (fun _ _ _ h => h) (Or.inl ⟨by kernel_rfl, ?hy27⟩) (by assumption) ?_
  case hy27 => (intro wI hSw; (try dsimp only at hSw); obtain ⟨q0a, q0b, q0c, q0d, q0e, q0f, q0g, q0h, q0i, q0j⟩ := (hSw.ca.ch.res (P4, x) (by simp)).1.all; obtain ⟨q1a, q1b, q1c, q1d, q1e, q1f, q1g, q1h, q1i, q1j⟩ := (hSw.ca.ch.res (P5, y) (by simp)).1.all; obtain ⟨q2a, q2b, q2c, q2d, q2e, q2f, q2g, q2h, q2i, q2j⟩ := (hSw.ca.ch.res (w.heap.size, a) (by simp)).1.all; obtain ⟨q3a, q3b, q3c, q3d, q3e, q3f, q3g, q3h, q3i, q3j⟩ := (hSw.ca.ch.res (w.heap.size + 1, b) (by simp)).1.all; have t0 := hSw.ca.ck.cell 0; have t1 := hSw.ca.ck.cell 1; have t2 := hSw.ca.ck.cell 2; have k0 := hSw.k8.cell 0; have k1 := hSw.k8.cell 1; have k2 := hSw.k8.cell 2; have j0 := hSw.k13.cell 0; have j1 := hSw.k13.cell 1; have j2 := hSw.k13.cell 2; go_simp; try with_reducible rfl)
  try simp only [Act.put, List.setIfInBounds_toArray, List.set_cons_zero, List.set_cons_succ]
  refine wpAnyH_take (i := 28) (v := ?_) (oi := { dst := some 76, op := Op.load 26 (Operand.tmp 5), type := 26, pos := "law.go:30", after := #[{ on := 23, ground := Ground.guard }], guard := some (23, true) }) (by kernel_rfl) (by kernel_rfl) (by kernel_rfl) (by kernel_rfl) (fun _ _ _ h => h) (Or.inl ⟨by kernel_rfl, ?hy28⟩) (by assumption) ?_
  case hy28 => (intro wI hSw; (try dsimp only at hSw); obtain ⟨q0a, q0b, q0c, q0d, q0e, q0f, q0g, q0h, q0i, q0j⟩ := (hSw.ca.ch.res (P4, x) (by simp)).1.all; obtain ⟨q1a, q1b, q1c, q1d, q1e, q1f, q1g, q1h, q1i, q1j⟩ := (hSw.ca.ch.res (P5, y) (by simp)).1.all; obtain ⟨q2a, q2b, q2c, q2d, q2e, q2f, q2g, q2h, q2i, q2j⟩ := (hSw.ca.ch.res (w.heap.size, a) (by simp)).1.all; obtain ⟨q3a, q3b, q3c, q3d, q3e, q3f, q3g, q3h, q3i, q3j⟩ := (hSw.ca.ch.res (w.heap.size + 1, b) (by simp)).1.all; have t0 := hSw.ca.ck.cell 0; have t1 := hSw.ca.ck.cell 1; have t2 := hSw.ca.ck.cell 2; have k0 := hSw.k8.cell 0; have k1 := hSw.k8.cell 1; have k2 := hSw.k8.cell 2; have j0 := hSw.k13.cell 0; have j1 := hSw.k13.cell 1; have j2 := hSw.k13.cell 2; go_simp; try with_reducible rfl)
  try simp only [Act.put, List.setIfInBounds_toArray, List.set_cons_zero, List.set_cons_succ]
  refine wpAnyH_ready (rs := [26]) (by kernel_rfl) (by simp) ?_
  refine AllReadyH.cons (o := { dst := some 74, op := Op.call { callee := Callee.value (Operand.func 19), args := #[Operand.tmp 72, Operand.tmp 73], argTypes := #[26, 26] }, type := 4, pos := "law.go:30", after := #[{ on := 24, ground := Ground.data }, { on := 25, ground := Ground.data }, { on := 23, ground := Ground.chain }, { on := 23, ground := Ground.guard }], guard := some (23, true) }) (by kernel_rfl) (fun K hK => ?_) AllReadyH.nil
  rw [if_pos (by kernel_rfl)]
  go_simp
  go_wp2_with fail
  refine (C26.out _ hHeld).mono ?_
  rintro e W26 ⟨rfl, hb⟩
  try replace O2 := hid (O2.out.on hb)
  try replace O5 := hid (O5.out.on hb)
  try replace O10 := hid (O10.out.on hb)
  try replace O13 := hid (O13.out.on hb)
  try replace R44 := hid (R44.out.on hb)
  try replace R46 := hid (R46.out.on hb)
  try replace R49 := hid (R49.out.on hb)
  have hM := hHeld.on hb
  refine hK.out _ _ hM (fun _ => ?_)
  clear hK K hHeld hb
  have hHeld := hM
  clear hM
  try simp only [Act.put, List.setIfInBounds_toArray, List.set_cons_zero, List.set_cons_succ]
  refine wpAnyH_ready (rs := [29]) (by kernel_rfl) (by simp) ?_
  refine AllReadyH.cons (o := { dst := some 77, op := Op.call { callee := Callee.value (Operand.func 12), args := #[Operand.tmp 75, Operand.tmp 76], argTypes := #[26, 26] }, type := 4, pos := "law.go:30", after := #[{ on := 27, ground := Ground.data }, { on := 28, ground := Ground.data }, { on := 26, ground := Ground.chain }, { on := 23, ground := Ground.guard }], guard := some (23, true) }) (by kernel_rfl) (fun K hK => ?_) AllReadyH.nil
  rw [if_pos (by kernel_rfl)]
  go_simp
  go_wp2_with fail
  refine (C29.out _ hHeld).mono ?_
  rintro e W29 ⟨rfl, hb⟩
  try replace O2 := hid (O2.out.on hb)
  try replace O5 := hid (O5.out.on hb)
  try replace O10 := hid (O10.out.on hb)
  try replace O13 := hid (O13.out.on hb)
  try replace R44 := hid (R44.out.on hb)
  try replace R46 := hid (R46.out.on hb)
  try replace R49 := hid (R49.out.on hb)
  have hM := hHeld.on hb
  refine hK.out _ _ hM (fun _ => ?_)
  clear hK K hHeld hb
  have hHeld := hM
  clear hM
  try simp only [Act.put, List.setIfInBounds_toArray, List.set_cons_zero, List.set_cons_succ]
  refine wpAnyH_take (i := 30) (v := ?_) (oi := { dst := some 78, op := Op.binOp BinOp.eql 4 (Operand.tmp 74) (Operand.tmp 77) 4, type := 4, pos := "law.go:30", after := #[{ on := 26, ground := Ground.data }, { on := 29, ground := Ground.data }, { on := 23, ground := Ground.guard }], guard := some (23, true) }) (by kernel_rfl) (by kernel_rfl) (by kernel_rfl) (by kernel_rfl) (fun _ _ _ h => h) (Or.inl ⟨by kernel_rfl, ?hy30⟩) (by assumption) ?_
  case hy30 => (intro wI hSw; (try dsimp only at hSw); obtain ⟨q0a, q0b, q0c, q0d, q0e, q0f, q0g, q0h, q0i, q0j⟩ := (hSw.ca.ch.res (P4, x) (by simp)).1.all; obtain ⟨q1a, q1b, q1c, q1d, q1e, q1f, q1g, q1h, q1i, q1j⟩ := (hSw.ca.ch.res (P5, y) (by simp)).1.all; obtain ⟨q2a, q2b, q2c, q2d, q2e, q2f, q2g, q2h, q2i, q2j⟩ := (hSw.ca.ch.res (w.heap.size, a) (by simp)).1.all; obtain ⟨q3a, q3b, q3c, q3d, q3e, q3f, q3g, q3h, q3i, q3j⟩ := (hSw.ca.ch.res (w.heap.size + 1, b) (by simp)).1.all; have t0 := hSw.ca.ck.cell 0; have t1 := hSw.ca.ck.cell 1; have t2 := hSw.ca.ck.cell 2; have k0 := hSw.k8.cell 0; have k1 := hSw.k8.cell 1; have k2 := hSw.k8.cell 2; have j0 := hSw.k13.cell 0; have j1 := hSw.k13.cell 1; have j2 := hSw.k13.cell 2; go_simp; try with_reducible rfl)
  try simp only [Act.put, List.setIfInBounds_toArray, List.set_cons_zero, List.set_cons_succ]
  refine wpAnyH_take (i := 31) (v := ?_) (oi := { dst := some 79, op := Op.pick (Operand.tmp 71) (Operand.tmp 78) (Operand.const (Value.bool false)), type := 4, pos := "law.go:30", after := #[{ on := 23, ground := Ground.data }, { on := 30, ground := Ground.data }], guard := none }) (by kernel_rfl) (by kernel_rfl) (by kernel_rfl) (by kernel_rfl) (fun _ _ _ h => h) (Or.inl ⟨by kernel_rfl, ?hy31⟩) (by assumption) ?_
  case hy31 => (intro wI hSw; (try dsimp only at hSw); obtain ⟨q0a, q0b, q0c, q0d, q0e, q0f, q0g, q0h, q0i, q0j⟩ := (hSw.ca.ch.res (P4, x) (by simp)).1.all; obtain ⟨q1a, q1b, q1c, q1d, q1e, q1f, q1g, q1h, q1i, q1j⟩ := (hSw.ca.ch.res (P5, y) (by simp)).1.all; obtain ⟨q2a, q2b, q2c, q2d, q2e, q2f, q2g, q2h, q2i, q2j⟩ := (hSw.ca.ch.res (w.heap.size, a) (by simp)).1.all; obtain ⟨q3a, q3b, q3c, q3d, q3e, q3f, q3g, q3h, q3i, q3j⟩ := (hSw.ca.ch.res (w.heap.size + 1, b) (by simp)).1.all; have t0 := hSw.ca.ck.cell 0; have t1 := hSw.ca.ck.cell 1; have t2 := hSw.ca.ck.cell 2; have k0 := hSw.k8.cell 0; have k1 := hSw.k8.cell 1; have k2 := hSw.k8.cell 2; have j0 := hSw.k13.cell 0; have j1 := hSw.k13.cell 1; have j2 := hSw.k13.cell 2; go_simp; try with_reducible rfl)
  try simp only [Act.put, List.setIfInBounds_toArray, List.set_cons_zero, List.set_cons_succ]
  refine wpAnyH_take (i := 32) (v := ?_) (oi := { dst := some 80, op := Op.move (Operand.tmp 79), type := 4, pos := "law.go:30", after := #[{ on := 31, ground := Ground.data }, { on := 29, ground := Ground.chain }], guard := none }) (by kernel_rfl) (by kernel_rfl) (by kernel_rfl) (by kernel_rfl) (fun _ _ _ h => h) (Or.inl ⟨by kernel_rfl, ?hy32⟩) (by assumption) ?_
  case hy32 => (intro wI hSw; (try dsimp only at hSw); obtain ⟨q0a, q0b, q0c, q0d, q0e, q0f, q0g, q0h, q0i, q0j⟩ := (hSw.ca.ch.res (P4, x) (by simp)).1.all; obtain ⟨q1a, q1b, q1c, q1d, q1e, q1f, q1g, q1h, q1i, q1j⟩ := (hSw.ca.ch.res (P5, y) (by simp)).1.all; obtain ⟨q2a, q2b, q2c, q2d, q2e, q2f, q2g, q2h, q2i, q2j⟩ := (hSw.ca.ch.res (w.heap.size, a) (by simp)).1.all; obtain ⟨q3a, q3b, q3c, q3d, q3e, q3f, q3g, q3h, q3i, q3j⟩ := (hSw.ca.ch.res (w.heap.size + 1, b) (by simp)).1.all; have t0 := hSw.ca.ck.cell 0; have t1 := hSw.ca.ck.cell 1; have t2 := hSw.ca.ck.cell 2; have k0 := hSw.k8.cell 0; have k1 := hSw.k8.cell 1; have k2 := hSw.k8.cell 2; have j0 := hSw.k13.cell 0; have j1 := hSw.k13.cell 1; have j2 := hSw.k13.cell 2; go_simp; try with_reducible rfl)
  try simp only [Act.put, List.setIfInBounds_toArray, List.set_cons_zero, List.set_cons_succ]
  refine wpAnyH_take (i := 33) (v := ?_) (oi := { dst := some 81, op := Op.load 28 (Operand.tmp 11), type := 28, pos := "law.go:30", after := #[{ on := 32, ground := Ground.guard }], guard := some (32, true) }) (by kernel_rfl) (by kernel_rfl) (by kernel_rfl) (by kernel_rfl) (fun _ _ _ h => h) (Or.inl ⟨by kernel_rfl, ?hy33⟩) (by assumption) ?_
  case hy33 => (intro wI hSw; (try dsimp only at hSw); obtain ⟨q0a, q0b, q0c, q0d, q0e, q0f, q0g, q0h, q0i, q0j⟩ := (hSw.ca.ch.res (P4, x) (by simp)).1.all; obtain ⟨q1a, q1b, q1c, q1d, q1e, q1f, q1g, q1h, q1i, q1j⟩ := (hSw.ca.ch.res (P5, y) (by simp)).1.all; obtain ⟨q2a, q2b, q2c, q2d, q2e, q2f, q2g, q2h, q2i, q2j⟩ := (hSw.ca.ch.res (w.heap.size, a) (by simp)).1.all; obtain ⟨q3a, q3b, q3c, q3d, q3e, q3f, q3g, q3h, q3i, q3j⟩ := (hSw.ca.ch.res (w.heap.size + 1, b) (by simp)).1.all; have t0 := hSw.ca.ck.cell 0; have t1 := hSw.ca.ck.cell 1; have t2 := hSw.ca.ck.cell 2; have k0 := hSw.k8.cell 0; have k1 := hSw.k8.cell 1; have k2 := hSw.k8.cell 2; have j0 := hSw.k13.cell 0; have j1 := hSw.k13.cell 1; have j2 := hSw.k13.cell 2; go_simp; try with_reducible rfl)
  try simp only [Act.put, List.setIfInBounds_toArray, List.set_cons_zero, List.set_cons_succ]
  refine wpAnyH_take (i := 34) (v := ?_) (oi := { dst := some 82, op := Op.load 28 (Operand.tmp 13), type := 28, pos := "law.go:30", after := #[{ on := 32, ground := Ground.guard }], guard := some (32, true) }) (by kernel_rfl) (by kernel_rfl) (by kernel_rfl) (by kernel_rfl) (fun _ _ _ h => h) (Or.inl ⟨by kernel_rfl, ?hy34⟩) (by assumption) ?_
  case hy34 => (intro wI hSw; (try dsimp only at hSw); obtain ⟨q0a, q0b, q0c, q0d, q0e, q0f, q0g, q0h, q0i, q0j⟩ := (hSw.ca.ch.res (P4, x) (by simp)).1.all; obtain ⟨q1a, q1b, q1c, q1d, q1e, q1f, q1g, q1h, q1i, q1j⟩ := (hSw.ca.ch.res (P5, y) (by simp)).1.all; obtain ⟨q2a, q2b, q2c, q2d, q2e, q2f, q2g, q2h, q2i, q2j⟩ := (hSw.ca.ch.res (w.heap.size, a) (by simp)).1.all; obtain ⟨q3a, q3b, q3c, q3d, q3e, q3f, q3g, q3h, q3i, q3j⟩ := (hSw.ca.ch.res (w.heap.size + 1, b) (by simp)).1.all; have t0 := hSw.ca.ck.cell 0; have t1 := hSw.ca.ck.cell 1; have t2 := hSw.ca.ck.cell 2; have k0 := hSw.k8.cell 0; have k1 := hSw.k8.cell 1; have k2 := hSw.k8.cell 2; have j0 := hSw.k13.cell 0; have j1 := hSw.k13.cell 1; have j2 := hSw.k13.cell 2; go_simp; try with_reducible rfl)
  try simp only [Act.put, List.setIfInBounds_toArray, List.set_cons_zero, List.set_cons_succ]
  refine wpAnyH_take (i := 35) (v := ?_) (oi := { dst := some 83, op := Op.binOp BinOp.eql 28 (Operand.tmp 81) (Operand.tmp 82) 28, type := 4, pos := "law.go:30", after := #[{ on := 33, ground := Ground.data }, { on := 34, ground := Ground.data }, { on := 32, ground := Ground.guard }], guard := some (32, true) }) (by kernel_rfl) (by kernel_rfl) (by kernel_rfl) (by kernel_rfl) (fun _ _ _ h => h) (Or.inl ⟨by kernel_rfl, ?hy35⟩) (by assumption) ?_
  case hy35 => (intro wI hSw; (try dsimp only at hSw); obtain ⟨q0a, q0b, q0c, q0d, q0e, q0f, q0g, q0h, q0i, q0j⟩ := (hSw.ca.ch.res (P4, x) (by simp)).1.all; obtain ⟨q1a, q1b, q1c, q1d, q1e, q1f, q1g, q1h, q1i, q1j⟩ := (hSw.ca.ch.res (P5, y) (by simp)).1.all; obtain ⟨q2a, q2b, q2c, q2d, q2e, q2f, q2g, q2h, q2i, q2j⟩ := (hSw.ca.ch.res (w.heap.size, a) (by simp)).1.all; obtain ⟨q3a, q3b, q3c, q3d, q3e, q3f, q3g, q3h, q3i, q3j⟩ := (hSw.ca.ch.res (w.heap.size + 1, b) (by simp)).1.all; have t0 := hSw.ca.ck.cell 0; have t1 := hSw.ca.ck.cell 1; have t2 := hSw.ca.ck.cell 2; have k0 := hSw.k8.cell 0; have k1 := hSw.k8.cell 1; have k2 := hSw.k8.cell 2; have j0 := hSw.k13.cell 0; have j1 := hSw.k13.cell 1; have j2 := hSw.k13.cell 2; go_simp; try with_reducible rfl)
  try simp only [Act.put, List.setIfInBounds_toArray, List.set_cons_zero, List.set_cons_succ]
  refine wpAnyH_take (i := 36) (v := ?_) (oi := { dst := some 84, op := Op.pick (Operand.tmp 80) (Operand.tmp 83) (Operand.const (Value.bool false)), type := 4, pos := "law.go:30", after := #[{ on := 32, ground := Ground.data }, { on := 35, ground := Ground.data }], guard := none }) (by kernel_rfl) (by kernel_rfl) (by kernel_rfl) (by kernel_rfl) (fun _ _ _ h => h) (Or.inl ⟨by kernel_rfl, ?hy36⟩) (by assumption) ?_
  case hy36 => (intro wI hSw; (try dsimp only at hSw); obtain ⟨q0a, q0b, q0c, q0d, q0e, q0f, q0g, q0h, q0i, q0j⟩ := (hSw.ca.ch.res (P4, x) (by simp)).1.all; obtain ⟨q1a, q1b, q1c, q1d, q1e, q1f, q1g, q1h, q1i, q1j⟩ := (hSw.ca.ch.res (P5, y) (by simp)).1.all; obtain ⟨q2a, q2b, q2c, q2d, q2e, q2f, q2g, q2h, q2i, q2j⟩ := (hSw.ca.ch.res (w.heap.size, a) (by simp)).1.all; obtain ⟨q3a, q3b, q3c, q3d, q3e, q3f, q3g, q3h, q3i, q3j⟩ := (hSw.ca.ch.res (w.heap.size + 1, b) (by simp)).1.all; have t0 := hSw.ca.ck.cell 0; have t1 := hSw.ca.ck.cell 1; have t2 := hSw.ca.ck.cell 2; have k0 := hSw.k8.cell 0; have k1 := hSw.k8.cell 1; have k2 := hSw.k8.cell 2; have j0 := hSw.k13.cell 0; have j1 := hSw.k13.cell 1; have j2 := hSw.k13.cell 2; go_simp; try with_reducible rfl)
  try simp only [Act.put, List.setIfInBounds_toArray, List.set_cons_zero, List.set_cons_succ]
  refine wpAnyH_take (i := 37) (v := ?_) (oi := { dst := some 85, op := Op.move (Operand.tmp 84), type := 4, pos := "law.go:30", after := #[{ on := 36, ground := Ground.data }, { on := 32, ground := Ground.chain }], guard := none }) (by kernel_rfl) (by kernel_rfl) (by kernel_rfl) (by kernel_rfl) (fun _ _ _ h => h) (Or.inl ⟨by kernel_rfl, ?hy37⟩) (by assumption) ?_
  case hy37 => (intro wI hSw; (try dsimp only at hSw); obtain ⟨q0a, q0b, q0c, q0d, q0e, q0f, q0g, q0h, q0i, q0j⟩ := (hSw.ca.ch.res (P4, x) (by simp)).1.all; obtain ⟨q1a, q1b, q1c, q1d, q1e, q1f, q1g, q1h, q1i, q1j⟩ := (hSw.ca.ch.res (P5, y) (by simp)).1.all; obtain ⟨q2a, q2b, q2c, q2d, q2e, q2f, q2g, q2h, q2i, q2j⟩ := (hSw.ca.ch.res (w.heap.size, a) (by simp)).1.all; obtain ⟨q3a, q3b, q3c, q3d, q3e, q3f, q3g, q3h, q3i, q3j⟩ := (hSw.ca.ch.res (w.heap.size + 1, b) (by simp)).1.all; have t0 := hSw.ca.ck.cell 0; have t1 := hSw.ca.ck.cell 1; have t2 := hSw.ca.ck.cell 2; have k0 := hSw.k8.cell 0; have k1 := hSw.k8.cell 1; have k2 := hSw.k8.cell 2; have j0 := hSw.k13.cell 0; have j1 := hSw.k13.cell 1; have j2 := hSw.k13.cell 2; go_simp; try with_reducible rfl)
  try simp only [Act.put, List.setIfInBounds_toArray, List.set_cons_zero, List.set_cons_succ]
  refine wpAnyH_take (i := 38) (v := ?_) (oi := { dst := some 86, op := Op.move (Operand.tmp 12), type := 4, pos := "law.go:30", after := #[{ on := 37, ground := Ground.guard }], guard := some (37, true) }) (by kernel_rfl) (by kernel_rfl) (by kernel_rfl) (by kernel_rfl) (fun _ _ _ h => h) (Or.inl ⟨by kernel_rfl, ?hy38⟩) (by assumption) ?_
  case hy38 => (intro wI hSw; (try dsimp only at hSw); obtain ⟨q0a, q0b, q0c, q0d, q0e, q0f, q0g, q0h, q0i, q0j⟩ := (hSw.ca.ch.res (P4, x) (by simp)).1.all; obtain ⟨q1a, q1b, q1c, q1d, q1e, q1f, q1g, q1h, q1i, q1j⟩ := (hSw.ca.ch.res (P5, y) (by simp)).1.all; obtain ⟨q2a, q2b, q2c, q2d, q2e, q2f, q2g, q2h, q2i, q2j⟩ := (hSw.ca.ch.res (w.heap.size, a) (by simp)).1.all; obtain ⟨q3a, q3b, q3c, q3d, q3e, q3f, q3g, q3h, q3i, q3j⟩ := (hSw.ca.ch.res (w.heap.size + 1, b) (by simp)).1.all; have t0 := hSw.ca.ck.cell 0; have t1 := hSw.ca.ck.cell 1; have t2 := hSw.ca.ck.cell 2; have k0 := hSw.k8.cell 0; have k1 := hSw.k8.cell 1; have k2 := hSw.k8.cell 2; have j0 := hSw.k13.cell 0; have j1 := hSw.k13.cell 1; have j2 := hSw.k13.cell 2; go_simp; try with_reducible rfl)
  try simp only [Act.put, List.setIfInBounds_toArray, List.set_cons_zero, List.set_cons_succ]
  refine wpAnyH_take (i := 39) (v := ?_) (oi := { dst := some 87, op := Op.move (Operand.tmp 14), type := 4, pos := "law.go:30", after := #[{ on := 37, ground := Ground.guard }], guard := some (37, true) }) (by kernel_rfl) (by kernel_rfl) (by kernel_rfl) (by kernel_rfl) (fun _ _ _ h => h) (Or.inl ⟨by kernel_rfl, ?hy39⟩) (by assumption) ?_
  case hy39 => (intro wI hSw; (try dsimp only at hSw); obtain ⟨q0a, q0b, q0c, q0d, q0e, q0f, q0g, q0h, q0i, q0j⟩ := (hSw.ca.ch.res (P4, x) (by simp)).1.all; obtain ⟨q1a, q1b, q1c, q1d, q1e, q1f, q1g, q1h, q1i, q1j⟩ := (hSw.ca.ch.res (P5, y) (by simp)).1.all; obtain ⟨q2a, q2b, q2c, q2d, q2e, q2f, q2g, q2h, q2i, q2j⟩ := (hSw.ca.ch.res (w.heap.size, a) (by simp)).1.all; obtain ⟨q3a, q3b, q3c, q3d, q3e, q3f, q3g, q3h, q3i, q3j⟩ := (hSw.ca.ch.res (w.heap.size + 1, b) (by simp)).1.all; have t0 := hSw.ca.ck.cell 0; have t1 := hSw.ca.ck.cell 1; have t2 := hSw.ca.ck.cell 2; have k0 := hSw.k8.cell 0; have k1 := hSw.k8.cell 1; have k2 := hSw.k8.cell 2; have j0 := hSw.k13.cell 0; have j1 := hSw.k13.cell 1; have j2 := hSw.k13.cell 2; go_simp; try with_reducible rfl)
  try simp only [Act.put, List.setIfInBounds_toArray, List.set_cons_zero, List.set_cons_succ]
  refine wpAnyH_take (i := 40) (v := ?_) (oi := { dst := some 88, op := Op.binOp BinOp.eql 4 (Operand.tmp 86) (Operand.tmp 87) 4, type := 4, pos := "law.go:30", after := #[{ on := 38, ground := Ground.data }, { on := 39, ground := Ground.data }, { on := 37, ground := Ground.guard }], guard := some (37, true) }) (by kernel_rfl) (by kernel_rfl) (by kernel_rfl) (by kernel_rfl) (fun _ _ _ h => h) (Or.inl ⟨by kernel_rfl, ?hy40⟩) (by assumption) ?_
  case hy40 => (intro wI hSw; (try dsimp only at hSw); obtain ⟨q0a, q0b, q0c, q0d, q0e, q0f, q0g, q0h, q0i, q0j⟩ := (hSw.ca.ch.res (P4, x) (by simp)).1.all; obtain ⟨q1a, q1b, q1c, q1d, q1e, q1f, q1g, q1h, q1i, q1j⟩ := (hSw.ca.ch.res (P5, y) (by simp)).1.all; obtain ⟨q2a, q2b, q2c, q2d, q2e, q2f, q2g, q2h, q2i, q2j⟩ := (hSw.ca.ch.res (w.heap.size, a) (by simp)).1.all; obtain ⟨q3a, q3b, q3c, q3d, q3e, q3f, q3g, q3h, q3i, q3j⟩ := (hSw.ca.ch.res (w.heap.size + 1, b) (by simp)).1.all; have t0 := hSw.ca.ck.cell 0; have t1 := hSw.ca.ck.cell 1; have t2 := hSw.ca.ck.cell 2; have k0 := hSw.k8.cell 0; have k1 := hSw.k8.cell 1; have k2 := hSw.k8.cell 2; have j0 := hSw.k13.cell 0; have j1 := hSw.k13.cell 1; have j2 := hSw.k13.cell 2; go_simp; try with_reducible rfl)
  try simp only [Act.put, List.setIfInBounds_toArray, List.set_cons_zero, List.set_cons_succ]
  refine wpAnyH_take (i := 41) (v := ?_) (oi := { dst := some 89, op := Op.pick (Operand.tmp 85) (Operand.tmp 88) (Operand.const (Value.bool false)), type := 4, pos := "law.go:30", after := #[{ on := 37, ground := Ground.data }, { on := 40, ground := Ground.data }], guard := none }) (by kernel_rfl) (by kernel_rfl) (by kernel_rfl) (by kernel_rfl) (fun _ _ _ h => h) (Or.inl ⟨by kernel_rfl, ?hy41⟩) (by assumption) ?_
  case hy41 => (intro wI hSw; (try dsimp only at hSw); obtain ⟨q0a, q0b, q0c, q0d, q0e, q0f, q0g, q0h, q0i, q0j⟩ := (hSw.ca.ch.res (P4, x) (by simp)).1.all; obtain ⟨q1a, q1b, q1c, q1d, q1e, q1f, q1g, q1h, q1i, q1j⟩ := (hSw.ca.ch.res (P5, y) (by simp)).1.all; obtain ⟨q2a, q2b, q2c, q2d, q2e, q2f, q2g, q2h, q2i, q2j⟩ := (hSw.ca.ch.res (w.heap.size, a) (by simp)).1.all; obtain ⟨q3a, q3b, q3c, q3d, q3e, q3f, q3g, q3h, q3i, q3j⟩ := (hSw.ca.ch.res (w.heap.size + 1, b) (by simp)).1.all; have t0 := hSw.ca.ck.cell 0; have t1 := hSw.ca.ck.cell 1; have t2 := hSw.ca.ck.cell 2; have k0 := hSw.k8.cell 0; have k1 := hSw.k8.cell 1; have k2 := hSw.k8.cell 2; have j0 := hSw.k13.cell 0; have j1 := hSw.k13.cell 1; have j2 := hSw.k13.cell 2; go_simp; try with_reducible rfl)
  try simp only [Act.put, List.setIfInBounds_toArray, List.set_cons_zero, List.set_cons_succ]
  refine wpAnyH_take (i := 42) (v := ?_) (oi := { dst := some 90, op := Op.move (Operand.tmp 89), type := 4, pos := "law.go:30", after := #[{ on := 41, ground := Ground.data }, { on := 37, ground := Ground.chain }], guard := none }) (by kernel_rfl) (by kernel_rfl) (by kernel_rfl) (by kernel_rfl) (fun _ _ _ h => h) (Or.inl ⟨by kernel_rfl, ?hy42⟩) (by assumption) ?_
  case hy42 => (intro wI hSw; (try dsimp only at hSw); obtain ⟨q0a, q0b, q0c, q0d, q0e, q0f, q0g, q0h, q0i, q0j⟩ := (hSw.ca.ch.res (P4, x) (by simp)).1.all; obtain ⟨q1a, q1b, q1c, q1d, q1e, q1f, q1g, q1h, q1i, q1j⟩ := (hSw.ca.ch.res (P5, y) (by simp)).1.all; obtain ⟨q2a, q2b, q2c, q2d, q2e, q2f, q2g, q2h, q2i, q2j⟩ := (hSw.ca.ch.res (w.heap.size, a) (by simp)).1.all; obtain ⟨q3a, q3b, q3c, q3d, q3e, q3f, q3g, q3h, q3i, q3j⟩ := (hSw.ca.ch.res (w.heap.size + 1, b) (by simp)).1.all; have t0 := hSw.ca.ck.cell 0; have t1 := hSw.ca.ck.cell 1; have t2 := hSw.ca.ck.cell 2; have k0 := hSw.k8.cell 0; have k1 := hSw.k8.cell 1; have k2 := hSw.k8.cell 2; have j0 := hSw.k13.cell 0; have j1 := hSw.k13.cell 1; have j2 := hSw.k13.cell 2; go_simp; try with_reducible rfl)
  try simp only [Act.put, List.setIfInBounds_toArray, List.set_cons_zero, List.set_cons_succ]
  refine wpAnyH_take (i := 43) (v := ?_) (oi := { dst := some 91, op := Op.move (Operand.tmp 2), type := 24, pos := "law.go:30", after := #[{ on := 42, ground := Ground.guard }], guard := some (42, true) }) (by kernel_rfl) (by kernel_rfl) (by kernel_rfl) (by kernel_rfl) (fun _ _ _ h => h) (Or.inl ⟨by kernel_rfl, ?hy43⟩) (by assumption) ?_
  case hy43 => (intro wI hSw; (try dsimp only at hSw); obtain ⟨q0a, q0b, q0c, q0d, q0e, q0f, q0g, q0h, q0i, q0j⟩ := (hSw.ca.ch.res (P4, x) (by simp)).1.all; obtain ⟨q1a, q1b, q1c, q1d, q1e, q1f, q1g, q1h, q1i, q1j⟩ := (hSw.ca.ch.res (P5, y) (by simp)).1.all; obtain ⟨q2a, q2b, q2c, q2d, q2e, q2f, q2g, q2h, q2i, q2j⟩ := (hSw.ca.ch.res (w.heap.size, a) (by simp)).1.all; obtain ⟨q3a, q3b, q3c, q3d, q3e, q3f, q3g, q3h, q3i, q3j⟩ := (hSw.ca.ch.res (w.heap.size + 1, b) (by simp)).1.all; have t0 := hSw.ca.ck.cell 0; have t1 := hSw.ca.ck.cell 1; have t2 := hSw.ca.ck.cell 2; have k0 := hSw.k8.cell 0; have k1 := hSw.k8.cell 1; have k2 := hSw.k8.cell 2; have j0 := hSw.k13.cell 0; have j1 := hSw.k13.cell 1; have j2 := hSw.k13.cell 2; go_simp; try with_reducible rfl)
  try simp only [Act.put, List.setIfInBounds_toArray, List.set_cons_zero, List.set_cons_succ]
  refine wpAnyH_take (i := 45) (v := ?_) (oi := { dst := some 93, op := Op.load 28 (Operand.tmp 7), type := 28, pos := "law.go:30", after := #[{ on := 42, ground := Ground.guard }], guard := some (42, true) }) (by kernel_rfl) (by kernel_rfl) (by kernel_rfl) (by kernel_rfl) (fun _ _ _ h => h) (Or.inl ⟨by kernel_rfl, ?hy45⟩) (by assumption) ?_
  case hy45 => (intro wI hSw; (try dsimp only at hSw); obtain ⟨q0a, q0b, q0c, q0d, q0e, q0f, q0g, q0h, q0i, q0j⟩ := (hSw.ca.ch.res (P4, x) (by simp)).1.all; obtain ⟨q1a, q1b, q1c, q1d, q1e, q1f, q1g, q1h, q1i, q1j⟩ := (hSw.ca.ch.res (P5, y) (by simp)).1.all; obtain ⟨q2a, q2b, q2c, q2d, q2e, q2f, q2g, q2h, q2i, q2j⟩ := (hSw.ca.ch.res (w.heap.size, a) (by simp)).1.all; obtain ⟨q3a, q3b, q3c, q3d, q3e, q3f, q3g, q3h, q3i, q3j⟩ := (hSw.ca.ch.res (w.heap.size + 1, b) (by simp)).1.all; have t0 := hSw.ca.ck.cell 0; have t1 := hSw.ca.ck.cell 1; have t2 := hSw.ca.ck.cell 2; have k0 := hSw.k8.cell 0; have k1 := hSw.k8.cell 1; have k2 := hSw.k8.cell 2; have j0 := hSw.k13.cell 0; have j1 := hSw.k13.cell 1; have j2 := hSw.k13.cell 2; go_simp; try with_reducible rfl)
  try simp only [Act.put, List.setIfInBounds_toArray, List.set_cons_zero, List.set_cons_succ]
  refine wpAnyH_take (i := 47) (v := ?_) (oi := { dst := some 95, op := Op.move (Operand.tmp 2), type := 24, pos := "law.go:30", after := #[{ on := 42, ground := Ground.guard }], guard := some (42, true) }) (by kernel_rfl) (by kernel_rfl) (by kernel_rfl) (by kernel_rfl) (fun _ _ _ h => h) (Or.inl ⟨by kernel_rfl, ?hy47⟩) (by assumption) ?_
  case hy47 => (intro wI hSw; (try dsimp only at hSw); obtain ⟨q0a, q0b, q0c, q0d, q0e, q0f, q0g, q0h, q0i, q0j⟩ := (hSw.ca.ch.res (P4, x) (by simp)).1.all; obtain ⟨q1a, q1b, q1c, q1d, q1e, q1f, q1g, q1h, q1i, q1j⟩ := (hSw.ca.ch.res (P5, y) (by simp)).1.all; obtain ⟨q2a, q2b, q2c, q2d, q2e, q2f, q2g, q2h, q2i, q2j⟩ := (hSw.ca.ch.res (w.heap.size, a) (by simp)).1.all; obtain ⟨q3a, q3b, q3c, q3d, q3e, q3f, q3g, q3h, q3i, q3j⟩ := (hSw.ca.ch.res (w.heap.size + 1, b) (by simp)).1.all; have t0 := hSw.ca.ck.cell 0; have t1 := hSw.ca.ck.cell 1; have t2 := hSw.ca.ck.cell 2; have k0 := hSw.k8.cell 0; have k1 := hSw.k8.cell 1; have k2 := hSw.k8.cell 2; have j0 := hSw.k13.cell 0; have j1 := hSw.k13.cell 1; have j2 := hSw.k13.cell 2; go_simp; try with_reducible rfl)
  try simp only [Act.put, List.setIfInBounds_toArray, List.set_cons_zero, List.set_cons_succ]
  refine wpAnyH_take (i := 48) (v := ?_) (oi := { dst := some 96, op := Op.load 28 (Operand.tmp 7), type := 28, pos := "law.go:30", after := #[{ on := 42, ground := Ground.guard }], guard := some (42, true) }) (by kernel_rfl) (by kernel_rfl) (by kernel_rfl) (by kernel_rfl) (fun _ _ _ h => h) (Or.inl ⟨by kernel_rfl, ?hy48⟩) (by assumption) ?_
  case hy48 => (intro wI hSw; (try dsimp only at hSw); obtain ⟨q0a, q0b, q0c, q0d, q0e, q0f, q0g, q0h, q0i, q0j⟩ := (hSw.ca.ch.res (P4, x) (by simp)).1.all; obtain ⟨q1a, q1b, q1c, q1d, q1e, q1f, q1g, q1h, q1i, q1j⟩ := (hSw.ca.ch.res (P5, y) (by simp)).1.all; obtain ⟨q2a, q2b, q2c, q2d, q2e, q2f, q2g, q2h, q2i, q2j⟩ := (hSw.ca.ch.res (w.heap.size, a) (by simp)).1.all; obtain ⟨q3a, q3b, q3c, q3d, q3e, q3f, q3g, q3h, q3i, q3j⟩ := (hSw.ca.ch.res (w.heap.size + 1, b) (by simp)).1.all; have t0 := hSw.ca.ck.cell 0; have t1 := hSw.ca.ck.cell 1; have t2 := hSw.ca.ck.cell 2; have k0 := hSw.k8.cell 0; have k1 := hSw.k8.cell 1; have k2 := hSw.k8.cell 2; have j0 := hSw.k13.cell 0; have j1 := hSw.k13.cell 1; have j2 := hSw.k13.cell 2; go_simp; try with_reducible rfl)
  try simp only [Act.put, List.setIfInBounds_toArray, List.set_cons_zero, List.set_cons_succ]
  refine wpAnyH_ready (rs := [44]) (by kernel_rfl) (by simp) ?_
  refine AllReadyH.cons (o := { dst := some 92, op := Op.call { callee := Callee.builtin Builtin.append, args := #[Operand.const (Value.slice none 0 0), Operand.tmp 91], argTypes := #[24, 24] }, type := 24, pos := "law.go:30", after := #[{ on := 43, ground := Ground.data }, { on := 42, ground := Ground.chain }, { on := 42, ground := Ground.guard }], guard := some (42, true) }) (by kernel_rfl) (fun K hK => ?_) AllReadyH.nil
  refine step_appG (by kernel_rfl) (.const (.slice none 0 0)) (.tmp 91) 24 24 rfl W29.heap.size 28 i0 (.agg #[.int .i64 0, .int .i64 0, .int .i64 0]) 3 24 Try.underlying24 hi hn0 hn1 hn2 rfl _ _ _ (by simp [Act.eval]) (World.ownsRow_nil _ _ _ _) _ _ _ (by simp [Act.eval]) (hHeld.ca.lr.src Try.underlying24) (by simp only [maxLen]; omega) (fitsM (by omega) (by decide)) (Nat.le_refl _) ?_
  intro v1 W44 o1 g1
  rw [Nat.zero_add, List.nil_append] at o1
  have hb := (kp_of_grown g1).below (Nat.le_refl _) (fun k hk => by cases hk)
  have hO : OwM 3 28 W29 W44 v1 s.l := ⟨by rw [HSL.out]; exact o1, hb, HSS.out⟩
  obtain ⟨a44, c44, rfl, hR, -⟩ := hO.rd
  have R44 := hid hR
  try replace O2 := hid (O2.out.on hb)
  try replace O5 := hid (O5.out.on hb)
  try replace O10 := hid (O10.out.on hb)
  try replace O13 := hid (O13.out.on hb)
  try replace R44 := hid (R44.out.on hb)
  try replace R46 := hid (R46.out.on hb)
  try replace R49 := hid (R49.out.on hb)
  have hM := hHeld.on hb
  refine hK.out _ _ hM (fun _ => ?_)
  clear hK K o1 g1 hb hO hR hHeld
  have hHeld := hM
  clear hM
  try simp only [Act.put, List.setIfInBounds_toArray, List.set_cons_zero, List.set_cons_succ]
  refine wpAnyH_ready (rs := [46]) (by kernel_rfl) (by simp) ?_
  refine AllReadyH.cons (o := { dst := some 94, op := Op.call { callee := Callee.value (Operand.func 21), args := #[Operand.tmp 92, Operand.tmp 93], argTypes := #[24, 28] }, type := 24, pos := "law.go:30", after := #[{ on := 44, ground := Ground.data }, { on := 45, ground := Ground.data }, { on := 44, ground := Ground.chain }, { on := 42, ground := Ground.guard }], guard := some (42, true) }) (by kernel_rfl) (fun K hK => ?_) AllReadyH.nil
  rw [if_pos (by kernel_rfl)]
  go_simp
  go_wp2_with fail
  refine (sput_any _ _ _ _ z0 z1 z2 _ R44.out (by rw [HSL.out]; omega)).mono ?_
  rintro e W46 ⟨v46, rfl, hO⟩
  have hb := hO.bel
  obtain ⟨a46, c46, rfl, hR, -⟩ := hO.rd
  try replace O2 := hid (O2.out.on hb)
  try replace O5 := hid (O5.out.on hb)
  try replace O10 := hid (O10.out.on hb)
  try replace O13 := hid (O13.out.on hb)
  try replace R44 := hid (R44.out.on hb)
  try replace R46 := hid (R46.out.on hb)
  try replace R49 := hid (R49.out.on hb)
  have R46 := hid hR
  have hM := hHeld.on hb
  refine hK.out _ _ hM (fun _ => ?_)
  clear hK K hHeld hb hO hR
  have hHeld := hM
  clear hM
  try simp only [Act.put, List.setIfInBounds_toArray, List.set_cons_zero, List.set_cons_succ]
  refine wpAnyH_ready (rs := [49]) (by kernel_rfl) (by simp) ?_
  refine AllReadyH.cons (o := { dst := some 97, op := Op.call { callee := Callee.value (Operand.func 22), args := #[Operand.tmp 95, Operand.tmp 96], argTypes := #[24, 28] }, type := 24, pos := "law.go:30", after := #[{ on := 47, ground := Ground.data }, { on := 48, ground := Ground.data }, { on := 46, ground := Ground.chain }, { on := 42, ground := Ground.guard }], guard := some (42, true) }) (by kernel_rfl) (fun K hK => ?_) AllReadyH.nil
  rw [if_pos (by kernel_rfl)]
  go_simp
  go_wp2_with fail
  refine (rput_any _ _ _ _ z0 z1 z2 _ hHeld.ca.lr (by omega)).mono ?_
  rintro e W49 ⟨v49, rfl, hO⟩
  have hb := hO.bel
  obtain ⟨a49, c49, rfl, hR, -⟩ := hO.rd
  try replace O2 := hid (O2.out.on hb)
  try replace O5 := hid (O5.out.on hb)
  try replace O10 := hid (O10.out.on hb)
  try replace O13 := hid (O13.out.on hb)
  try replace R44 := hid (R44.out.on hb)
  try replace R46 := hid (R46.out.on hb)
  try replace R49 := hid (R49.out.on hb)
  have R49 := hid hR
  have hM := hHeld.on hb
  refine hK.out _ _ hM (fun _ => ?_)
  clear hK K hHeld hb hO hR
  have hHeld := hM
  clear hM
  try simp only [Act.put, List.setIfInBounds_toArray, List.set_cons_zero, List.set_cons_succ]
  refine wpAnyH_ready (rs := [50]) (by kernel_rfl) (by simp) ?_
  refine AllReadyH.cons (o := { dst := some 98, op := Op.call { callee := Callee.value (Operand.func 20), args := #[Operand.tmp 94, Operand.tmp 97], argTypes := #[24, 24] }, type := 4, pos := "law.go:30", after := #[{ on := 46, ground := Ground.data }, { on := 49, ground := Ground.data }, { on := 49, ground := Ground.chain }, { on := 42, ground := Ground.guard }], guard := some (42, true) }) (by kernel_rfl) (fun K hK => ?_) AllReadyH.nil
  rw [if_pos (by kernel_rfl)]
  have C := samechildren_any _ _ _ _ _ _ _ _ _ R46.out R49.out
  rw [leqs_same] at C
  have HCC := hid C
  clear C
  go_simp
  go_wp2_with fail
  refine HCC.out.mono ?_
  rintro e W50 ⟨rfl, q50, hq50⟩
  have hb : RowKit.Below W49.heap.size W49 W50 := by rw [hq50]; exact below_drewN (Below.refl _ _) _
  clear hq50 HCC
  have hM := hHeld.on hb
  refine hK.out _ _ hM (fun _ => ?_)
  clear hK K hHeld hb
  have hHeld := hM
  clear hM
  try simp only [Act.put, List.setIfInBounds_toArray, List.set_cons_zero, List.set_cons_succ]
  refine wpAnyH_take (i := 51) (v := ?_) (oi := { dst := some 99, op := Op.pick (Operand.tmp 90) (Operand.tmp 98) (Operand.const (Value.bool false)), type := 4, pos := "law.go:30", after := #[{ on := 42, ground := Ground.data }, { on := 50, ground := Ground.data }], guard := none }) (by kernel_rfl) (by kernel_rfl) (by kernel_rfl) (by kernel_rfl) (fun _ _ _ h => h) (Or.inl ⟨by kernel_rfl, ?hy51⟩) (by assumption) ?_
  case hy51 => (intro wI hSw; (try dsimp only at hSw); obtain ⟨q0a, q0b, q0c, q0d, q0e, q0f, q0g, q0h, q0i, q0j⟩ := (hSw.ca.ch.res (P4, x) (by simp)).1.all; obtain ⟨q1a, q1b, q1c, q1d, q1e, q1f, q1g, q1h, q1i, q1j⟩ := (hSw.ca.ch.res (P5, y) (by simp)).1.all; obtain ⟨q2a, q2b, q2c, q2d, q2e, q2f, q2g, q2h, q2i, q2j⟩ := (hSw.ca.ch.res (w.heap.size, a) (by simp)).1.all; obtain ⟨q3a, q3b, q3c, q3d, q3e, q3f, q3g, q3h, q3i, q3j⟩ := (hSw.ca.ch.res (w.heap.size + 1, b) (by simp)).1.all; have t0 := hSw.ca.ck.cell 0; have t1 := hSw.ca.ck.cell 1; have t2 := hSw.ca.ck.cell 2; have k0 := hSw.k8.cell 0; have k1 := hSw.k8.cell 1; have k2 := hSw.k8.cell 2; have j0 := hSw.k13.cell 0; have j1 := hSw.k13.cell 1; have j2 := hSw.k13.cell 2; go_simp; try with_reducible rfl)
  try simp only [Act.put, List.setIfInBounds_toArray, List.set_cons_zero, List.set_cons_succ]
  refine wpAnyH_take (i := 52) (v := ?_) (oi := { dst := some 100, op := Op.move (Operand.tmp 99), type := 4, pos := "law.go:30", after := #[{ on := 51, ground := Ground.data }, { on := 50, ground := Ground.chain }], guard := none }) (by kernel_rfl) (by kernel_rfl) (by kernel_rfl) (by kernel_rfl) (fun _ _ _ h => h) (Or.inl ⟨by kernel_rfl, ?hy52⟩) (by assumption) ?_
  case hy52 => (intro wI hSw; (try dsimp only at hSw); obtain ⟨q0a, q0b, q0c, q0d, q0e, q0f, q0g, q0h, q0i, q0j⟩ := (hSw.ca.ch.res (P4, x) (by simp)).1.all; obtain ⟨q1a, q1b, q1c, q1d, q1e, q1f, q1g, q1h, q1i, q1j⟩ := (hSw.ca.ch.res (P5, y) (by simp)).1.all; obtain ⟨q2a, q2b, q2c, q2d, q2e, q2f, q2g, q2h, q2i, q2j⟩ := (hSw.ca.ch.res (w.heap.size, a) (by simp)).1.all; obtain ⟨q3a, q3b, q3c, q3d, q3e, q3f, q3g, q3h, q3i, q3j⟩ := (hSw.ca.ch.res (w.heap.size + 1, b) (by simp)).1.all; have t0 := hSw.ca.ck.cell 0; have t1 := hSw.ca.ck.cell 1; have t2 := hSw.ca.ck.cell 2; have k0 := hSw.k8.cell 0; have k1 := hSw.k8.cell 1; have k2 := hSw.k8.cell 2; have j0 := hSw.k13.cell 0; have j1 := hSw.k13.cell 1; have j2 := hSw.k13.cell 2; go_simp; try with_reducible rfl)
  try simp only [Act.put, List.setIfInBounds_toArray, List.set_cons_zero, List.set_cons_succ]
  refine wpAnyH_take (i := 53) (v := ?_) (oi := { dst := some 101, op := Op.load 26 (Operand.tmp 9), type := 26, pos := "law.go:30", after := #[{ on := 52, ground := Ground.guard }], guard := some (52, true) }) (by kernel_rfl) (by kernel_rfl) (by kernel_rfl) (by kernel_rfl) (fun _ _ _ h => h) (Or.inl ⟨by kernel_rfl, ?hy53⟩) (by assumption) ?_
  case hy53 => (intro wI hSw; (try dsimp only at hSw); obtain ⟨q0a, q0b, q0c, q0d, q0e, q0f, q0g, q0h, q0i, q0j⟩ := (hSw.ca.ch.res (P4, x) (by simp)).1.all; obtain ⟨q1a, q1b, q1c, q1d, q1e, q1f, q1g, q1h, q1i, q1j⟩ := (hSw.ca.ch.res (P5, y) (by simp)).1.all; obtain ⟨q2a, q2b, q2c, q2d, q2e, q2f, q2g, q2h, q2i, q2j⟩ := (hSw.ca.ch.res (w.heap.size, a) (by simp)).1.all; obtain ⟨q3a, q3b, q3c, q3d, q3e, q3f, q3g, q3h, q3i, q3j⟩ := (hSw.ca.ch.res (w.heap.size + 1, b) (by simp)).1.all; have t0 := hSw.ca.ck.cell 0; have t1 := hSw.ca.ck.cell 1; have t2 := hSw.ca.ck.cell 2; have k0 := hSw.k8.cell 0; have k1 := hSw.k8.cell 1; have k2 := hSw.k8.cell 2; have j0 := hSw.k13.cell 0; have j1 := hSw.k13.cell 1; have j2 := hSw.k13.cell 2; go_simp; try with_reducible rfl)
  try simp only [Act.put, List.setIfInBounds_toArray, List.set_cons_zero, List.set_cons_succ]
  refine wpAnyH_take (i := 54) (v := ?_) (oi := { dst := some 102, op := Op.load 26 (Operand.tmp 4), type := 26, pos := "law.go:30", after := #[{ on := 52, ground := Ground.guard }], guard := some (52, true) }) (by kernel_rfl) (by kernel_rfl) (by kernel_rfl) (by kernel_rfl) (fun _ _ _ h => h) (Or.inl ⟨by kernel_rfl, ?hy54⟩) (by assumption) ?_
  case hy54 => (intro wI hSw; (try dsimp only at hSw); obtain ⟨q0a, q0b, q0c, q0d, q0e, q0f, q0g, q0h, q0i, q0j⟩ := (hSw.ca.ch.res (P4, x) (by simp)).1.all; obtain ⟨q1a, q1b, q1c, q1d, q1e, q1f, q1g, q1h, q1i, q1j⟩ := (hSw.ca.ch.res (P5, y) (by simp)).1.all; obtain ⟨q2a, q2b, q2c, q2d, q2e, q2f, q2g, q2h, q2i, q2j⟩ := (hSw.ca.ch.res (w.heap.size, a) (by simp)).1.all; obtain ⟨q3a, q3b, q3c, q3d, q3e, q3f, q3g, q3h, q3i, q3j⟩ := (hSw.ca.ch.res (w.heap.size + 1, b) (by simp)).1.all; have t0 := hSw.ca.ck.cell 0; have t1 := hSw.ca.ck.cell 1; have t2 := hSw.ca.ck.cell 2; have k0 := hSw.k8.cell 0; have k1 := hSw.k8.cell 1; have k2 := hSw.k8.cell 2; have j0 := hSw.k13.cell 0; have j1 := hSw.k13.cell 1; have j2 := hSw.k13.cell 2; go_simp; try with_reducible rfl)
  try simp only [Act.put, List.setIfInBounds_toArray, List.set_cons_zero, List.set_cons_succ]
  refine wpAnyH_ready (rs := [55]) (by kernel_rfl) (by simp) ?_
  refine AllReadyH.cons (o := { dst := some 103, op := Op.call { callee := Callee.value (Operand.func 12), args := #[Operand.tmp 101, Operand.tmp 102], argTypes := #[26, 26] }, type := 4, pos := "law.go:30", after := #[{ on := 53, ground := Ground.data }, { on := 54, ground := Ground.data }, { on := 52, ground := Ground.chain }, { on := 52, ground := Ground.guard }], guard := some (52, true) }) (by kernel_rfl) (fun K hK => ?_) AllReadyH.nil
  rw [if_pos (by kernel_rfl)]
  go_simp
  go_wp2_with fail
  refine (C55.out _ hHeld).mono ?_
  rintro e W55 ⟨rfl, hb⟩
  try replace O2 := hid (O2.out.on hb)
  try replace O5 := hid (O5.out.on hb)
  try replace O10 := hid (O10.out.on hb)
  try replace O13 := hid (O13.out.on hb)
  try replace R44 := hid (R44.out.on hb)
  try replace R46 := hid (R46.out.on hb)
  try replace R49 := hid (R49.out.on hb)
  have hM := hHeld.on hb
  refine hK.out _ _ hM (fun _ => ?_)
  clear hK K hHeld hb
  have hHeld := hM
  clear hM
  try simp only [Act.put, List.setIfInBounds_toArray, List.set_cons_zero, List.set_cons_succ]
  refine wpAnyH_take (i := 56) (v := ?_) (oi := { dst := some 104, op := Op.pick (Operand.tmp 100) (Operand.tmp 103) (Operand.const (Value.bool false)), type := 4, pos := "law.go:30", after := #[{ on := 52, ground := Ground.data }, { on := 55, ground := Ground.data }], guard := none }) (by kernel_rfl) (by kernel_rfl) (by kernel_rfl) (by kernel_rfl) (fun _ _ _ h => h) (Or.inl ⟨by kernel_rfl, ?hy56⟩) (by assumption) ?_
  case hy56 => (intro wI hSw; (try dsimp only at hSw); obtain ⟨q0a, q0b, q0c, q0d, q0e, q0f, q0g, q0h, q0i, q0j⟩ := (hSw.ca.ch.res (P4, x) (by simp)).1.all; obtain ⟨q1a, q1b, q1c, q1d, q1e, q1f, q1g, q1h, q1i, q1j⟩ := (hSw.ca.ch.res (P5, y) (by simp)).1.all; obtain ⟨q2a, q2b, q2c, q2d, q2e, q2f, q2g, q2h, q2i, q2j⟩ := (hSw.ca.ch.res (w.heap.size, a) (by simp)).1.all; obtain ⟨q3a, q3b, q3c, q3d, q3e, q3f, q3g, q3h, q3i, q3j⟩ := (hSw.ca.ch.res (w.heap.size + 1, b) (by simp)).1.all; have t0 := hSw.ca.ck.cell 0; have t1 := hSw.ca.ck.cell 1; have t2 := hSw.ca.ck.cell 2; have k0 := hSw.k8.cell 0; have k1 := hSw.k8.cell 1; have k2 := hSw.k8.cell 2; have j0 := hSw.k13.cell 0; have j1 := hSw.k13.cell 1; have j2 := hSw.k13.cell 2; go_simp; try with_reducible rfl)
  try simp only [Act.put, List.setIfInBounds_toArray, List.set_cons_zero, List.set_cons_succ]
  refine wpAnyH_take (i := 57) (v := ?_) (oi := { dst := some 105, op := Op.move (Operand.tmp 104), type := 4, pos := "law.go:30", after := #[{ on := 56, ground := Ground.data }, { on := 55, ground := Ground.chain }], guard := none }) (by kernel_rfl) (by kernel_rfl) (by kernel_rfl) (by kernel_rfl) (fun _ _ _ h => h) (Or.inl ⟨by kernel_rfl, ?hy57⟩) (by assumption) ?_
  case hy57 => (intro wI hSw; (try dsimp only at hSw); obtain ⟨q0a, q0b, q0c, q0d, q0e, q0f, q0g, q0h, q0i, q0j⟩ := (hSw.ca.ch.res (P4, x) (by simp)).1.all; obtain ⟨q1a, q1b, q1c, q1d, q1e, q1f, q1g, q1h, q1i, q1j⟩ := (hSw.ca.ch.res (P5, y) (by simp)).1.all; obtain ⟨q2a, q2b, q2c, q2d, q2e, q2f, q2g, q2h, q2i, q2j⟩ := (hSw.ca.ch.res (w.heap.size, a) (by simp)).1.all; obtain ⟨q3a, q3b, q3c, q3d, q3e, q3f, q3g, q3h, q3i, q3j⟩ := (hSw.ca.ch.res (w.heap.size + 1, b) (by simp)).1.all; have t0 := hSw.ca.ck.cell 0; have t1 := hSw.ca.ck.cell 1; have t2 := hSw.ca.ck.cell 2; have k0 := hSw.k8.cell 0; have k1 := hSw.k8.cell 1; have k2 := hSw.k8.cell 2; have j0 := hSw.k13.cell 0; have j1 := hSw.k13.cell 1; have j2 := hSw.k13.cell 2; go_simp; try with_reducible rfl)
  try simp only [Act.put, List.setIfInBounds_toArray, List.set_cons_zero, List.set_cons_succ]
  refine wpAnyH_take (i := 58) (v := ?_) (oi := { dst := some 106, op := Op.load 26 (Operand.tmp 10), type := 26, pos := "law.go:30", after := #[{ on := 57, ground := Ground.guard }], guard := some (57, true) }) (by kernel_rfl) (by kernel_rfl) (by kernel_rfl) (by kernel_rfl) (fun _ _ _ h => h) (Or.inl ⟨by kernel_rfl, ?hy58⟩) (by assumption) ?_
  case hy58 => (intro wI hSw; (try dsimp only at hSw); obtain ⟨q0a, q0b, q0c, q0d, q0e, q0f, q0g, q0h, q0i, q0j⟩ := (hSw.ca.ch.res (P4, x) (by simp)).1.all; obtain ⟨q1a, q1b, q1c, q1d, q1e, q1f, q1g, q1h, q1i, q1j⟩ := (hSw.ca.ch.res (P5, y) (by simp)).1.all; obtain ⟨q2a, q2b, q2c, q2d, q2e, q2f, q2g, q2h, q2i, q2j⟩ := (hSw.ca.ch.res (w.heap.size, a) (by simp)).1.all; obtain ⟨q3a, q3b, q3c, q3d, q3e, q3f, q3g, q3h, q3i, q3j⟩ := (hSw.ca.ch.res (w.heap.size + 1, b) (by simp)).1.all; have t0 := hSw.ca.ck.cell 0; have t1 := hSw.ca.ck.cell 1; have t2 := hSw.ca.ck.cell 2; have k0 := hSw.k8.cell 0; have k1 := hSw.k8.cell 1; have k2 := hSw.k8.cell 2; have j0 := hSw.k13.cell 0; have j1 := hSw.k13.cell 1; have j2 := hSw.k13.cell 2; go_simp; try with_reducible rfl)
  try simp only [Act.put, List.setIfInBounds_toArray, List.set_cons_zero, List.set_cons_succ]
  refine wpAnyH_take (i := 59) (v := ?_) (oi := { dst := some 107, op := Op.load 26 (Operand.tmp 5), type := 26, pos := "law.go:30", after := #[{ on := 57, ground := Ground.guard }], guard := some (57, true) }) (by kernel_rfl) (by kernel_rfl) (by kernel_rfl) (by kernel_rfl) (fun _ _ _ h => h) (Or.inl ⟨by kernel_rfl, ?hy59⟩) (by assumption) ?_
  case hy59 => (intro wI hSw; (try dsimp only at hSw); obtain ⟨q0a, q0b, q0c, q0d, q0e, q0f, q0g, q0h, q0i, q0j⟩ := (hSw.ca.ch.res (P4, x) (by simp)).1.all; obtain ⟨q1a, q1b, q1c, q1d, q1e, q1f, q1g, q1h, q1i, q1j⟩ := (hSw.ca.ch.res (P5, y) (by simp)).1.all; obtain ⟨q2a, q2b, q2c, q2d, q2e, q2f, q2g, q2h, q2i, q2j⟩ := (hSw.ca.ch.res (w.heap.size, a) (by simp)).1.all; obtain ⟨q3a, q3b, q3c, q3d, q3e, q3f, q3g, q3h, q3i, q3j⟩ := (hSw.ca.ch.res (w.heap.size + 1, b) (by simp)).1.all; have t0 := hSw.ca.ck.cell 0; have t1 := hSw.ca.ck.cell 1; have t2 := hSw.ca.ck.cell 2; have k0 := hSw.k8.cell 0; have k1 := hSw.k8.cell 1; have k2 := hSw.k8.cell 2; have j0 := hSw.k13.cell 0; have j1 := hSw.k13.cell 1; have j2 := hSw.k13.cell 2; go_simp; try with_reducible rfl)
  try simp only [Act.put, List.setIfInBounds_toArray, List.set_cons_zero, List.set_cons_succ]
  refine wpAnyH_ready (rs := [60]) (by kernel_rfl) (by simp) ?_
  refine AllReadyH.cons (o := { dst := some 108, op := Op.call { callee := Callee.value (Operand.func 12), args := #[Operand.tmp 106, Operand.tmp 107], argTypes := #[26, 26] }, type := 4, pos := "law.go:30", after := #[{ on := 58, ground := Ground.data }, { on := 59, ground := Ground.data }, { on := 57, ground := Ground.chain }, { on := 57, ground := Ground.guard }], guard := some (57, true) }) (by kernel_rfl) (fun K hK => ?_) AllReadyH.nil
  rw [if_pos (by kernel_rfl)]
  go_simp
  go_wp2_with fail
  refine (C60.out _ hHeld).mono ?_
  rintro e W60 ⟨rfl, hb⟩
  try replace O2 := hid (O2.out.on hb)
  try replace O5 := hid (O5.out.on hb)
  try replace O10 := hid (O10.out.on hb)
  try replace O13 := hid (O13.out.on hb)
  try replace R44 := hid (R44.out.on hb)
  try replace R46 := hid (R46.out.on hb)
  try replace R49 := hid (R49.out.on hb)
  have hM := hHeld.on hb
  refine hK.out _ _ hM (fun _ => ?_)
  clear hK K hHeld hb
  have hHeld := hM
  clear hM
  try simp only [Act.put, List.setIfInBounds_toArray, List.set_cons_zero, List.set_cons_succ]
  refine wpAnyH_take (i := 61) (v := ?_) (oi := { dst := some 109, op := Op.pick (Operand.tmp 105) (Operand.tmp 108) (Operand.const (Value.bool false)), type := 4, pos := "law.go:30", after := #[{ on := 57, ground := Ground.data }, { on := 60, ground := Ground.data }], guard := none }) (by kernel_rfl) (by kernel_rfl) (by kernel_rfl) (by kernel_rfl) (fun _ _ _ h => h) (Or.inl ⟨by kernel_rfl, ?hy61⟩) (by assumption) ?_
  case hy61 => (intro wI hSw; (try dsimp only at hSw); obtain ⟨q0a, q0b, q0c, q0d, q0e, q0f, q0g, q0h, q0i, q0j⟩ := (hSw.ca.ch.res (P4, x) (by simp)).1.all; obtain ⟨q1a, q1b, q1c, q1d, q1e, q1f, q1g, q1h, q1i, q1j⟩ := (hSw.ca.ch.res (P5, y) (by simp)).1.all; obtain ⟨q2a, q2b, q2c, q2d, q2e, q2f, q2g, q2h, q2i, q2j⟩ := (hSw.ca.ch.res (w.heap.size, a) (by simp)).1.all; obtain ⟨q3a, q3b, q3c, q3d, q3e, q3f, q3g, q3h, q3i, q3j⟩ := (hSw.ca.ch.res (w.heap.size + 1, b) (by simp)).1.all; have t0 := hSw.ca.ck.cell 0; have t1 := hSw.ca.ck.cell 1; have t2 := hSw.ca.ck.cell 2; have k0 := hSw.k8.cell 0; have k1 := hSw.k8.cell 1; have k2 := hSw.k8.cell 2; have j0 := hSw.k13.cell 0; have j1 := hSw.k13.cell 1; have j2 := hSw.k13.cell 2; go_simp; try with_reducible rfl)
  try simp only [Act.put, List.setIfInBounds_toArray, List.set_cons_zero, List.set_cons_succ]
  refine wpAnyH_take (i := 62) (v := ?_) (oi := { dst := some 110, op := Op.move (Operand.tmp 109), type := 4, pos := "law.go:30", after := #[{ on := 61, ground := Ground.data }, { on := 60, ground := Ground.chain }], guard := none }) (by kernel_rfl) (by kernel_rfl) (by kernel_rfl) (by kernel_rfl) (fun _ _ _ h => h) (Or.inl ⟨by kernel_rfl, ?hy62⟩) (by assumption) ?_
  case hy62 => (intro wI hSw; (try dsimp only at hSw); obtain ⟨q0a, q0b, q0c, q0d, q0e, q0f, q0g, q0h, q0i, q0j⟩ := (hSw.ca.ch.res (P4, x) (by simp)).1.all; obtain ⟨q1a, q1b, q1c, q1d, q1e, q1f, q1g, q1h, q1i, q1j⟩ := (hSw.ca.ch.res (P5, y) (by simp)).1.all; obtain ⟨q2a, q2b, q2c, q2d, q2e, q2f, q2g, q2h, q2i, q2j⟩ := (hSw.ca.ch.res (w.heap.size, a) (by simp)).1.all; obtain ⟨q3a, q3b, q3c, q3d, q3e, q3f, q3g, q3h, q3i, q3j⟩ := (hSw.ca.ch.res (w.heap.size + 1, b) (by simp)).1.all; have t0 := hSw.ca.ck.cell 0; have t1 := hSw.ca.ck.cell 1; have t2 := hSw.ca.ck.cell 2; have k0 := hSw.k8.cell 0; have k1 := hSw.k8.cell 1; have k2 := hSw.k8.cell 2; have j0 := hSw.k13.cell 0; have j1 := hSw.k13.cell 1; have j2 := hSw.k13.cell 2; go_simp; try with_reducible rfl)
  try simp only [Act.put, List.setIfInBounds_toArray, List.set_cons_zero, List.set_cons_succ]
  refine wpAnyH_ready (rs := [63]) (by kernel_rfl) (by simp) ?_
  refine AllReadyH.cons (o := { dst := some 111, op := Op.call { callee := Callee.value (Operand.func 8), args := #[], argTypes := #[] }, type := 4, pos := "law.go:30", after := #[{ on := 62, ground := Ground.chain }, { on := 62, ground := Ground.guard }], guard := some (62, true) }) (by kernel_rfl) (fun K hK => ?_) AllReadyH.nil
  rw [if_pos (by kernel_rfl)]
  go_simp
  go_wp2_with fail
  refine (awake_any _).mono ?_
  rintro e W63 ⟨rfl, hb⟩
  try replace O2 := hid (O2.out.on hb)
  try replace O5 := hid (O5.out.on hb)
  try replace O10 := hid (O10.out.on hb)
  try replace O13 := hid (O13.out.on hb)
  try replace R44 := hid (R44.out.on hb)
  try replace R46 := hid (R46.out.on hb)
  try replace R49 := hid (R49.out.on hb)
  have hM := hHeld.on hb
  refine hK.out _ _ hM (fun _ => ?_)
  clear hK K hHeld hb
  have hHeld := hM
  clear hM
  try simp only [Act.put, List.setIfInBounds_toArray, List.set_cons_zero, List.set_cons_succ]
  refine wpAnyH_take (i := 64) (v := ?_) (oi := { dst := some 112, op := Op.pick (Operand.tmp 110) (Operand.tmp 111) (Operand.const (Value.bool false)), type := 4, pos := "law.go:30", after := #[{ on := 62, ground := Ground.data }, { on := 63, ground := Ground.data }], guard := none }) (by kernel_rfl) (by kernel_rfl) (by kernel_rfl) (by kernel_rfl) (fun _ _ _ h => h) (Or.inl ⟨by kernel_rfl, ?hy64⟩) (by assumption) ?_
  case hy64 => (intro wI hSw; (try dsimp only at hSw); obtain ⟨q0a, q0b, q0c, q0d, q0e, q0f, q0g, q0h, q0i, q0j⟩ := (hSw.ca.ch.res (P4, x) (by simp)).1.all; obtain ⟨q1a, q1b, q1c, q1d, q1e, q1f, q1g, q1h, q1i, q1j⟩ := (hSw.ca.ch.res (P5, y) (by simp)).1.all; obtain ⟨q2a, q2b, q2c, q2d, q2e, q2f, q2g, q2h, q2i, q2j⟩ := (hSw.ca.ch.res (w.heap.size, a) (by simp)).1.all; obtain ⟨q3a, q3b, q3c, q3d, q3e, q3f, q3g, q3h, q3i, q3j⟩ := (hSw.ca.ch.res (w.heap.size + 1, b) (by simp)).1.all; have t0 := hSw.ca.ck.cell 0; have t1 := hSw.ca.ck.cell 1; have t2 := hSw.ca.ck.cell 2; have k0 := hSw.k8.cell 0; have k1 := hSw.k8.cell 1; have k2 := hSw.k8.cell 2; have j0 := hSw.k13.cell 0; have j1 := hSw.k13.cell 1; have j2 := hSw.k13.cell 2; go_simp; try with_reducible rfl)
  try simp only [Act.put, List.setIfInBounds_toArray, List.set_cons_zero, List.set_cons_succ]
  refine wpAnyH_take (i := 65) (v := ?_) (oi := { dst := some 8, op := Op.assign (Operand.tmp 112), type := 4, pos := "law.go:30", after := ([{ on := 64, ground := Ground.data }, { on := 63, ground := Ground.chain }, { on := 0, ground := Ground.phase }, { on := 1, ground := Ground.phase }, { on := 2, ground := Ground.phase }, { on := 3, ground := Ground.phase }, { on := 4, ground := Ground.phase }, { on := 5, ground := Ground.phase }, { on := 6, ground := Ground.phase }, { on := 7, ground := Ground.phase }, { on := 8, ground := Ground.phase }, { on := 9, ground := Ground.phase }, { on := 10, ground := Ground.phase }, { on := 11, ground := Ground.phase }, { on := 12, ground := Ground.phase }, { on := 13, ground := Ground.phase }, { on := 14, ground := Ground.phase }, { on := 15, ground := Ground.phase }, { on := 16, ground := Ground.phase }, { on := 17, ground := Ground.phase }, { on := 18, ground := Ground.phase }, { on := 19, ground := Ground.phase }, { on := 20, ground := Ground.phase }, { on := 21, ground := Ground.phase }, { on := 22, ground := Ground.phase }, { on := 23, ground := Ground.phase }, { on := 24, ground := Ground.phase }, { on := 25, ground := Ground.phase }, { on := 26, ground := Ground.phase }, { on := 27, ground := Ground.phase }, { on := 28, ground := Ground.phase }, { on := 29, ground := Ground.phase }, { on := 30, ground := Ground.phase }].append [{ on := 31, ground := Ground.phase }, { on := 32, ground := Ground.phase }, { on := 33, ground := Ground.phase }, { on := 34, ground := Ground.phase }, { on := 35, ground := Ground.phase }, { on := 36, ground := Ground.phase }, { on := 37, ground := Ground.phase }, { on := 38, ground := Ground.phase }, { on := 39, ground := Ground.phase }, { on := 40, ground := Ground.phase }, { on := 41, ground := Ground.phase }, { on := 42, ground := Ground.phase }, { on := 43, ground := Ground.phase }, { on := 44, ground := Ground.phase }, { on := 45, ground := Ground.phase }, { on := 46, ground := Ground.phase }, { on := 47, ground := Ground.phase }, { on := 48, ground := Ground.phase }, { on := 49, ground := Ground.phase }, { on := 50, ground := Ground.phase }, { on := 51, ground := Ground.phase }, { on := 52, ground := Ground.phase }, { on := 53, ground := Ground.phase }, { on := 54, ground := Ground.phase }, { on := 55, ground := Ground.phase }, { on := 56, ground := Ground.phase }, { on := 57, ground := Ground.phase }, { on := 58, ground := Ground.phase }, { on := 59, ground := Ground.phase }, { on := 60, ground := Ground.phase }, { on := 61, ground := Ground.phase }, { on := 62, ground := Ground.phase }, { on := 63, ground := Ground.phase }, { on := 64, ground := Ground.phase }]).toArray, guard := none }) (by kernel_rfl) (by kernel_rfl) (by kernel_rfl) (by kernel_rfl) (fun _ _ _ h => h) (Or.inl ⟨by kernel_rfl, ?hy65⟩) (by assumption) ?_
  case hy65 => (intro wI hSw; (try dsimp only at hSw); obtain ⟨q0a, q0b, q0c, q0d, q0e, q0f, q0g, q0h, q0i, q0j⟩ := (hSw.ca.ch.res (P4, x) (by simp)).1.all; obtain ⟨q1a, q1b, q1c, q1d, q1e, q1f, q1g, q1h, q1i, q1j⟩ := (hSw.ca.ch.res (P5, y) (by simp)).1.all; obtain ⟨q2a, q2b, q2c, q2d, q2e, q2f, q2g, q2h, q2i, q2j⟩ := (hSw.ca.ch.res (w.heap.size, a) (by simp)).1.all; obtain ⟨q3a, q3b, q3c, q3d, q3e, q3f, q3g, q3h, q3i, q3j⟩ := (hSw.ca.ch.res (w.heap.size + 1, b) (by simp)).1.all; have t0 := hSw.ca.ck.cell 0; have t1 := hSw.ca.ck.cell 1; have t2 := hSw.ca.ck.cell 2; have k0 := hSw.k8.cell 0; have k1 := hSw.k8.cell 1; have k2 := hSw.k8.cell 2; have j0 := hSw.k13.cell 0; have j1 := hSw.k13.cell 1; have j2 := hSw.k13.cell 2; go_simp; try with_reducible rfl)
  try simp only [Act.put, List.setIfInBounds_toArray, List.set_cons_zero, List.set_cons_succ]
  refine wpAnyH_done (by kernel_rfl) ?_ _
  go_wp2
  go_ret
  exact ⟨rfl, hHeld.ca.ch.bel⟩

theorem walk (a b : Sx) (sa : Option Addr) (sn sc : Nat) (sl : List (List Int)) (z0 z1 z2 : Int) (w : World) (h0 : a.Ok w) (h1 : b.Ok w) (h2 : RdN 3 w sa sn sc sl) (_h3 : ∀ z ∈ [z0, z1, z2], (Lit.int .i64 z).wf = true) : Calls Try.prog 3 #[.agg #[.bool a.at_, .int .i64 a.buf, .slice a.dm.a a.dm.n a.dm.c, .slice a.fr.a a.fr.n a.fr.c, .bool a.inp, .bool a.all, .slice a.rg.a a.rg.n a.rg.c, .bool a.ord, .slice a.od.a a.od.n a.od.c, .slice a.pl.a a.pl.n a.pl.c], .agg #[.bool b.at_, .int .i64 b.buf, .slice b.dm.a b.dm.n b.dm.c, .slice b.fr.a b.fr.n b.fr.c, .bool b.inp, .bool b.all, .slice b.rg.a b.rg.n b.rg.c, .bool b.ord, .slice b.od.a b.od.n b.od.c, .slice b.pl.a b.pl.n b.pl.c], .slice sa sn sc, .agg #[.int .i64 z0, .int .i64 z1, .int .i64 z2]] w fun e w' => e = .returned (.bool true) ∧ Below w.heap.size w w' := core a b ⟨sa, sn, sc, sl⟩ z0 z1 z2 w h0 h1 (rdm_of_rdn (by decide) h2)
end Go.Proofs.Ytcdflegfjannmaa.stateAll
