/- Lemmas that the proof leans on. -/
import Derived.Test.YtdgknofpkafppaaGreatDoorB06
namespace Go.Proofs.YtdgknofpkafppaaGreatDoor
open Go Go.RowKit
open List renaming getElem_toArray → lqA, getElem_cons_zero → lqB, getElem_cons_succ → lqC, setIfInBounds_toArray → lqD, set_cons_zero → lqE, set_cons_succ → lqF
set_option maxRecDepth 100000
set_option maxHeartbeats 20000000
section
def ac (A : Bool) (l m : List (List Int)) (j : Nat) : Bool := A && leqs (l.take j) (m.take j)
theorem ac_zero (A : Bool) (l m : List (List Int)) : ac A l m 0 = A := by simp [ac, leqs]
theorem ac_end {A : Bool} {l m : List (List Int)} {n : Nat} (h : l.length = n) (h' : m.length = n) : ac A l m n = (A && leqs l m) := by
 rw [ac, List.take_of_length_le (by omega), List.take_of_length_le (by omega)]
theorem ac_succ {A : Bool} {l m : List (List Int)} {j : Nat} {x y : List Int} (hx : l[j]? = some x) (hy : m[j]? = some y) : ac A l m (j + 1) = (ac A l m j && leq x y) := by
 have h1 : j < l.length := (List.getElem?_eq_some_iff.1 hx).1
 have h2 : j < m.length := (List.getElem?_eq_some_iff.1 hy).1
 unfold ac leqs leq
 rw [take_snoc hx, take_snoc hy, Bool.and_assoc]
 congr 1
 rw [Bool.eq_iff_iff]
 simp only [decide_eq_true_eq, Bool.and_eq_true]
 constructor
 ·intro h
  have := List.append_inj h (by rw [List.length_take, List.length_take]; omega)
  simpa using this
 ·rintro ⟨h, rfl⟩
  rw [h]
structure M2 (w : World) (x y : Sx) (u : World) : Prop where
 bx : Bs u w.heap.size x
 by_ : Bs u (w.heap.size + 1) y
 bel : RowKit.Below w.heap.size w u
theorem m2_new (w : World) (x y : Sx) : M2 w x y ((w.alloc (.cells #[.bool x.at_, .int .i64 x.buf, .slice x.dm.a x.dm.n x.dm.c, .slice x.fr.a x.fr.n x.fr.c, .bool x.inp, .bool x.all, .slice x.rg.a x.rg.n x.rg.c, .bool x.ord, .slice x.od.a x.od.n x.od.c, .slice x.pl.a x.pl.n x.pl.c] 43)).alloc (.cells #[.bool y.at_, .int .i64 y.buf, .slice y.dm.a y.dm.n y.dm.c, .slice y.fr.a y.fr.n y.fr.c, .bool y.inp, .bool y.all, .slice y.rg.a y.rg.n y.rg.c, .bool y.ord, .slice y.od.a y.od.n y.od.c, .slice y.pl.a y.pl.n y.pl.c] 43)) := by
 obtain ⟨h1, h2, h3⟩ := sbox2 x y (Below.refl _ ((w.alloc (.cells #[.bool x.at_, .int .i64 x.buf, .slice x.dm.a x.dm.n x.dm.c, .slice x.fr.a x.fr.n x.fr.c, .bool x.inp, .bool x.all, .slice x.rg.a x.rg.n x.rg.c, .bool x.ord, .slice x.od.a x.od.n x.od.c, .slice x.pl.a x.pl.n x.pl.c] 43)).alloc (.cells #[.bool y.at_, .int .i64 y.buf, .slice y.dm.a y.dm.n y.dm.c, .slice y.fr.a y.fr.n y.fr.c, .bool y.inp, .bool y.all, .slice y.rg.a y.rg.n y.rg.c, .bool y.ord, .slice y.od.a y.od.n y.od.c, .slice y.pl.a y.pl.n y.pl.c] 43)))
 exact ⟨h1, h2, h3⟩
def opsRS1 : Array Oper := #[
 ⟨some 11, .fieldAddr 43 (.tmp 2) 0, 0, "ref.go:78", #[], none⟩,
 ⟨some 12, .load 4 (.tmp 11), 4, "ref.go:78", #[⟨0, .data⟩], none⟩,
 ⟨some 13, .fieldAddr 43 (.tmp 3) 0, 0, "ref.go:78", #[], none⟩,
 ⟨some 14, .load 4 (.tmp 13), 4, "ref.go:78", #[⟨2, .data⟩], none⟩,
 ⟨some 15, .binOp .neq 4 (.tmp 12) (.tmp 14) 4, 4, "ref.go:78", #[⟨1, .data⟩, ⟨3, .data⟩], none⟩,
 ⟨some 16, .move (.tmp 15), 4, "ref.go:78", #[⟨4, .data⟩], none⟩,
 ⟨some 17, .fieldAddr 43 (.tmp 2) 1, 0, "ref.go:78", #[⟨5, .guard⟩], some (5, false)⟩,
 ⟨some 18, .load 3 (.tmp 17), 3, "ref.go:78", #[⟨6, .data⟩, ⟨5, .guard⟩], some (5, false)⟩,
 ⟨some 19, .fieldAddr 43 (.tmp 3) 1, 0, "ref.go:78", #[⟨5, .guard⟩], some (5, false)⟩,
 ⟨some 20, .load 3 (.tmp 19), 3, "ref.go:78", #[⟨8, .data⟩, ⟨5, .guard⟩], some (5, false)⟩,
 ⟨some 21, .binOp .neq 3 (.tmp 18) (.tmp 20) 3, 4, "ref.go:78", #[⟨7, .data⟩, ⟨9, .data⟩, ⟨5, .guard⟩], some (5, false)⟩,
 ⟨some 22, .pick (.tmp 16) (.const (Value.bool true)) (.tmp 21), 4, "ref.go:78", #[⟨5, .data⟩, ⟨10, .data⟩], none⟩,
 ⟨some 23, .move (.tmp 22), 4, "ref.go:78", #[⟨11, .data⟩, ⟨5, .chain⟩], none⟩,
 ⟨some 24, .fieldAddr 43 (.tmp 2) 4, 0, "ref.go:78", #[⟨12, .guard⟩], some (12, false)⟩,
 ⟨some 25, .load 4 (.tmp 24), 4, "ref.go:78", #[⟨13, .data⟩, ⟨12, .guard⟩], some (12, false)⟩,
 ⟨some 26, .fieldAddr 43 (.tmp 3) 4, 0, "ref.go:78", #[⟨12, .guard⟩], some (12, false)⟩,
 ⟨some 27, .load 4 (.tmp 26), 4, "ref.go:78", #[⟨15, .data⟩, ⟨12, .guard⟩], some (12, false)⟩,
 ⟨some 28, .binOp .neq 4 (.tmp 25) (.tmp 27) 4, 4, "ref.go:78", #[⟨14, .data⟩, ⟨16, .data⟩, ⟨12, .guard⟩], some (12, false)⟩,
 ⟨some 29, .pick (.tmp 23) (.const (Value.bool true)) (.tmp 28), 4, "ref.go:78", #[⟨12, .data⟩, ⟨17, .data⟩], none⟩,
 ⟨some 30, .move (.tmp 29), 4, "ref.go:78", #[⟨18, .data⟩, ⟨12, .chain⟩], none⟩,
 ⟨some 31, .fieldAddr 43 (.tmp 2) 5, 0, "ref.go:78", #[⟨19, .guard⟩], some (19, false)⟩,
 ⟨some 32, .load 4 (.tmp 31), 4, "ref.go:78", #[⟨20, .data⟩, ⟨19, .guard⟩], some (19, false)⟩,
 ⟨some 33, .fieldAddr 43 (.tmp 3) 5, 0, "ref.go:78", #[⟨19, .guard⟩], some (19, false)⟩,
 ⟨some 34, .load 4 (.tmp 33), 4, "ref.go:78", #[⟨22, .data⟩, ⟨19, .guard⟩], some (19, false)⟩,
 ⟨some 35, .binOp .neq 4 (.tmp 32) (.tmp 34) 4, 4, "ref.go:78", #[⟨21, .data⟩, ⟨23, .data⟩, ⟨19, .guard⟩], some (19, false)⟩,
 ⟨some 36, .pick (.tmp 30) (.const (Value.bool true)) (.tmp 35), 4, "ref.go:78", #[⟨19, .data⟩, ⟨24, .data⟩], none⟩,
 ⟨some 37, .move (.tmp 36), 4, "ref.go:78", #[⟨25, .data⟩, ⟨19, .chain⟩], none⟩,
 ⟨some 38, .fieldAddr 43 (.tmp 2) 7, 0, "ref.go:78", #[⟨26, .guard⟩], some (26, false)⟩,
 ⟨some 39, .load 4 (.tmp 38), 4, "ref.go:78", #[⟨27, .data⟩, ⟨26, .guard⟩], some (26, false)⟩,
 ⟨some 40, .fieldAddr 43 (.tmp 3) 7, 0, "ref.go:78", #[⟨26, .guard⟩], some (26, false)⟩,
 ⟨some 41, .load 4 (.tmp 40), 4, "ref.go:78", #[⟨29, .data⟩, ⟨26, .guard⟩], some (26, false)⟩,
 ⟨some 42, .binOp .neq 4 (.tmp 39) (.tmp 41) 4, 4, "ref.go:78", #[⟨28, .data⟩, ⟨30, .data⟩, ⟨26, .guard⟩], some (26, false)⟩,
 ⟨some 43, .pick (.tmp 37) (.const (Value.bool true)) (.tmp 42), 4, "ref.go:78", #[⟨26, .data⟩, ⟨31, .data⟩], none⟩,
 ⟨some 44, .move (.tmp 43), 4, "ref.go:78", #[⟨32, .data⟩, ⟨26, .chain⟩], none⟩,
 ⟨some 45, .fieldAddr 43 (.tmp 2) 2, 0, "ref.go:78", #[⟨33, .guard⟩], some (33, false)⟩,
 ⟨some 46, .load 31 (.tmp 45), 31, "ref.go:78", #[⟨34, .data⟩, ⟨33, .guard⟩], some (33, false)⟩,
 ⟨some 47, .call { callee := .builtin Builtin.len, args := #[.tmp 46], argTypes := #[31] }, 3, "ref.go:78", #[⟨35, .data⟩, ⟨33, .guard⟩], some (33, false)⟩,
 ⟨some 48, .fieldAddr 43 (.tmp 3) 2, 0, "ref.go:78", #[⟨33, .guard⟩], some (33, false)⟩,
 ⟨some 49, .load 31 (.tmp 48), 31, "ref.go:78", #[⟨37, .data⟩, ⟨33, .guard⟩], some (33, false)⟩,
 ⟨some 50, .call { callee := .builtin Builtin.len, args := #[.tmp 49], argTypes := #[31] }, 3, "ref.go:78", #[⟨38, .data⟩, ⟨33, .guard⟩], some (33, false)⟩,
 ⟨some 51, .binOp .neq 3 (.tmp 47) (.tmp 50) 3, 4, "ref.go:78", #[⟨36, .data⟩, ⟨39, .data⟩, ⟨33, .guard⟩], some (33, false)⟩,
 ⟨some 52, .pick (.tmp 44) (.const (Value.bool true)) (.tmp 51), 4, "ref.go:78", #[⟨33, .data⟩, ⟨40, .data⟩], none⟩,
 ⟨some 53, .move (.tmp 52), 4, "ref.go:78", #[⟨41, .data⟩, ⟨33, .chain⟩], none⟩,
 ⟨some 54, .fieldAddr 43 (.tmp 2) 3, 0, "ref.go:78", #[⟨42, .guard⟩], some (42, false)⟩,
 ⟨some 55, .load 40 (.tmp 54), 40, "ref.go:78", #[⟨43, .data⟩, ⟨42, .guard⟩], some (42, false)⟩,
 ⟨some 56, .call { callee := .builtin Builtin.len, args := #[.tmp 55], argTypes := #[40] }, 3, "ref.go:78", #[⟨44, .data⟩, ⟨42, .guard⟩], some (42, false)⟩,
 ⟨some 57, .fieldAddr 43 (.tmp 3) 3, 0, "ref.go:78", #[⟨42, .guard⟩], some (42, false)⟩,
 ⟨some 58, .load 40 (.tmp 57), 40, "ref.go:78", #[⟨46, .data⟩, ⟨42, .guard⟩], some (42, false)⟩,
 ⟨some 59, .call { callee := .builtin Builtin.len, args := #[.tmp 58], argTypes := #[40] }, 3, "ref.go:78", #[⟨47, .data⟩, ⟨42, .guard⟩], some (42, false)⟩,
 ⟨some 60, .binOp .neq 3 (.tmp 56) (.tmp 59) 3, 4, "ref.go:78", #[⟨45, .data⟩, ⟨48, .data⟩, ⟨42, .guard⟩], some (42, false)⟩,
 ⟨some 61, .pick (.tmp 53) (.const (Value.bool true)) (.tmp 60), 4, "ref.go:78", #[⟨42, .data⟩, ⟨49, .data⟩], none⟩,
 ⟨some 62, .move (.tmp 61), 4, "ref.go:78", #[⟨50, .data⟩, ⟨42, .chain⟩], none⟩,
 ⟨some 63, .fieldAddr 43 (.tmp 2) 6, 0, "ref.go:78", #[⟨51, .guard⟩], some (51, false)⟩,
 ⟨some 64, .load 31 (.tmp 63), 31, "ref.go:78", #[⟨52, .data⟩, ⟨51, .guard⟩], some (51, false)⟩,
 ⟨some 65, .call { callee := .builtin Builtin.len, args := #[.tmp 64], argTypes := #[31] }, 3, "ref.go:78", #[⟨53, .data⟩, ⟨51, .guard⟩], some (51, false)⟩,
 ⟨some 66, .fieldAddr 43 (.tmp 3) 6, 0, "ref.go:78", #[⟨51, .guard⟩], some (51, false)⟩,
 ⟨some 67, .load 31 (.tmp 66), 31, "ref.go:78", #[⟨55, .data⟩, ⟨51, .guard⟩], some (51, false)⟩,
 ⟨some 68, .call { callee := .builtin Builtin.len, args := #[.tmp 67], argTypes := #[31] }, 3, "ref.go:78", #[⟨56, .data⟩, ⟨51, .guard⟩], some (51, false)⟩,
 ⟨some 69, .binOp .neq 3 (.tmp 65) (.tmp 68) 3, 4, "ref.go:78", #[⟨54, .data⟩, ⟨57, .data⟩, ⟨51, .guard⟩], some (51, false)⟩,
 ⟨some 70, .pick (.tmp 62) (.const (Value.bool true)) (.tmp 69), 4, "ref.go:78", #[⟨51, .data⟩, ⟨58, .data⟩], none⟩,
 ⟨some 71, .move (.tmp 70), 4, "ref.go:78", #[⟨59, .data⟩, ⟨51, .chain⟩], none⟩,
 ⟨some 72, .fieldAddr 43 (.tmp 2) 8, 0, "ref.go:78", #[⟨60, .guard⟩], some (60, false)⟩,
 ⟨some 73, .load 40 (.tmp 72), 40, "ref.go:78", #[⟨61, .data⟩, ⟨60, .guard⟩], some (60, false)⟩,
 ⟨some 74, .call { callee := .builtin Builtin.len, args := #[.tmp 73], argTypes := #[40] }, 3, "ref.go:78", #[⟨62, .data⟩, ⟨60, .guard⟩], some (60, false)⟩,
 ⟨some 75, .fieldAddr 43 (.tmp 3) 8, 0, "ref.go:78", #[⟨60, .guard⟩], some (60, false)⟩,
 ⟨some 76, .load 40 (.tmp 75), 40, "ref.go:78", #[⟨64, .data⟩, ⟨60, .guard⟩], some (60, false)⟩,
 ⟨some 77, .call { callee := .builtin Builtin.len, args := #[.tmp 76], argTypes := #[40] }, 3, "ref.go:78", #[⟨65, .data⟩, ⟨60, .guard⟩], some (60, false)⟩,
 ⟨some 78, .binOp .neq 3 (.tmp 74) (.tmp 77) 3, 4, "ref.go:78", #[⟨63, .data⟩, ⟨66, .data⟩, ⟨60, .guard⟩], some (60, false)⟩,
 ⟨some 79, .pick (.tmp 71) (.const (Value.bool true)) (.tmp 78), 4, "ref.go:78", #[⟨60, .data⟩, ⟨67, .data⟩], none⟩,
 ⟨some 80, .move (.tmp 79), 4, "ref.go:78", #[⟨68, .data⟩, ⟨60, .chain⟩], none⟩,
 ⟨some 81, .fieldAddr 43 (.tmp 2) 9, 0, "ref.go:78", #[⟨69, .guard⟩], some (69, false)⟩,
 ⟨some 82, .load 38 (.tmp 81), 38, "ref.go:78", #[⟨70, .data⟩, ⟨69, .guard⟩], some (69, false)⟩,
 ⟨some 83, .call { callee := .builtin Builtin.len, args := #[.tmp 82], argTypes := #[38] }, 3, "ref.go:78", #[⟨71, .data⟩, ⟨69, .guard⟩], some (69, false)⟩,
 ⟨some 84, .fieldAddr 43 (.tmp 3) 9, 0, "ref.go:78", #[⟨69, .guard⟩], some (69, false)⟩,
 ⟨some 85, .load 38 (.tmp 84), 38, "ref.go:78", #[⟨73, .data⟩, ⟨69, .guard⟩], some (69, false)⟩,
 ⟨some 86, .call { callee := .builtin Builtin.len, args := #[.tmp 85], argTypes := #[38] }, 3, "ref.go:78", #[⟨74, .data⟩, ⟨69, .guard⟩], some (69, false)⟩,
 ⟨some 87, .binOp .neq 3 (.tmp 83) (.tmp 86) 3, 4, "ref.go:78", #[⟨72, .data⟩, ⟨75, .data⟩, ⟨69, .guard⟩], some (69, false)⟩,
 ⟨some 88, .pick (.tmp 80) (.const (Value.bool true)) (.tmp 87), 4, "ref.go:78", #[⟨69, .data⟩, ⟨76, .data⟩], none⟩]
theorem rsame_any (x y : Sx) (w : World) (okx : x.Ok w) (oky : y.Ok w) : Calls Tryz.prog 22 #[.agg #[.bool x.at_, .int .i64 x.buf, .slice x.dm.a x.dm.n x.dm.c, .slice x.fr.a x.fr.n x.fr.c, .bool x.inp, .bool x.all, .slice x.rg.a x.rg.n x.rg.c, .bool x.ord, .slice x.od.a x.od.n x.od.c, .slice x.pl.a x.pl.n x.pl.c], .agg #[.bool y.at_, .int .i64 y.buf, .slice y.dm.a y.dm.n y.dm.c, .slice y.fr.a y.fr.n y.fr.c, .bool y.inp, .bool y.all, .slice y.rg.a y.rg.n y.rg.c, .bool y.ord, .slice y.od.a y.od.n y.od.c, .slice y.pl.a y.pl.n y.pl.c]] w fun e w' => e = .returned (.bool (sm x.q y.q)) ∧ Below w.heap.size w w' := by
 have Ef := hid (smx_eq x y)
 have HX := hid okx
 have HY := hid oky
 have g4 := eqlM4_guard
 have q4 := eqlM4
 have g3 := eqlM3_guard
 have q3 := eqlM3
 have sdm := okx.dm.small.1
 have tdm := oky.dm.small.1
 have Ddm : Hid ((((x.dm.n : Int) != y.dm.n) = true) → leqs x.dm.l y.dm.l = false) := fun h => leqs_len (by rw [okx.dm.len, oky.dm.len]; intro e; rw [e] at h; simp at h)
 have sfr := okx.fr.small.1
 have tfr := oky.fr.small.1
 have Dfr : Hid ((((x.fr.n : Int) != y.fr.n) = true) → leqs x.fr.l y.fr.l = false) := fun h => leqs_len (by rw [okx.fr.len, oky.fr.len]; intro e; rw [e] at h; simp at h)
 have srg := okx.rg.small.1
 have trg := oky.rg.small.1
 have Drg : Hid ((((x.rg.n : Int) != y.rg.n) = true) → leqs x.rg.l y.rg.l = false) := fun h => leqs_len (by rw [okx.rg.len, oky.rg.len]; intro e; rw [e] at h; simp at h)
 have sod := okx.od.small.1
 have tod := oky.od.small.1
 have Dod : Hid ((((x.od.n : Int) != y.od.n) = true) → leqs x.od.l y.od.l = false) := fun h => leqs_len (by rw [okx.od.len, oky.od.len]; intro e; rw [e] at h; simp at h)
 have spl := okx.pl.small.1
 have tpl := oky.pl.small.1
 have Dpl : Hid ((((x.pl.n : Int) != y.pl.n) = true) → leqs x.pl.l y.pl.l = false) := fun h => leqs_len (by rw [okx.pl.len, oky.pl.len]; intro e; rw [e] at h; simp at h)
 obtain ⟨d0, hd0⟩ : ∃ d : Bool, (x.at_ != y.at_) = d := ⟨_, rfl⟩
 obtain ⟨d1, hd1⟩ : ∃ d : Bool, (x.buf != y.buf) = d := ⟨_, rfl⟩
 obtain ⟨d2, hd2⟩ : ∃ d : Bool, (x.inp != y.inp) = d := ⟨_, rfl⟩
 obtain ⟨d3, hd3⟩ : ∃ d : Bool, (x.all != y.all) = d := ⟨_, rfl⟩
 obtain ⟨d4, hd4⟩ : ∃ d : Bool, (x.ord != y.ord) = d := ⟨_, rfl⟩
 obtain ⟨d5, hd5⟩ : ∃ d : Bool, ((x.dm.n : Int) != y.dm.n) = d := ⟨_, rfl⟩
 obtain ⟨d6, hd6⟩ : ∃ d : Bool, ((x.fr.n : Int) != y.fr.n) = d := ⟨_, rfl⟩
 obtain ⟨d7, hd7⟩ : ∃ d : Bool, ((x.rg.n : Int) != y.rg.n) = d := ⟨_, rfl⟩
 obtain ⟨d8, hd8⟩ : ∃ d : Bool, ((x.od.n : Int) != y.od.n) = d := ⟨_, rfl⟩
 obtain ⟨d9, hd9⟩ : ∃ d : Bool, ((x.pl.n : Int) != y.pl.n) = d := ⟨_, rfl⟩
 obtain ⟨c1, hc1⟩ : ∃ c : Bool, (d0 || d1) = c := ⟨_, rfl⟩
 obtain ⟨c2, hc2⟩ : ∃ c : Bool, (c1 || d2) = c := ⟨_, rfl⟩
 obtain ⟨c3, hc3⟩ : ∃ c : Bool, (c2 || d3) = c := ⟨_, rfl⟩
 obtain ⟨c4, hc4⟩ : ∃ c : Bool, (c3 || d4) = c := ⟨_, rfl⟩
 obtain ⟨c5, hc5⟩ : ∃ c : Bool, (c4 || d5) = c := ⟨_, rfl⟩
 obtain ⟨c6, hc6⟩ : ∃ c : Bool, (c5 || d6) = c := ⟨_, rfl⟩
 obtain ⟨c7, hc7⟩ : ∃ c : Bool, (c6 || d7) = c := ⟨_, rfl⟩
 obtain ⟨c8, hc8⟩ : ∃ c : Bool, (c7 || d8) = c := ⟨_, rfl⟩
 obtain ⟨c9, hc9⟩ : ∃ c : Bool, (c8 || d9) = c := ⟨_, rfl⟩
 have HMM := hid (m2_new w x y)
 clear okx oky
 go_enter Tryz.func22, Tryz.ntmps22
 go_upto_region 1 with fail
 go_cut [0, 1, 88] (fun _ _ v wx => v = .bool c9 ∧ M2 w x y wx)
 case first =>
  have hHeld := HMM.out
  refine swap_ops (ops' := opsRS1) (by kernel_rfl) ?_
  refine wp_region_seq (l := [0, 1, 2, 3, 4, 5, 6, 7, 8, 9, 10, 11, 12, 13, 14, 15, 16, 17, 18, 19, 20, 21, 22, 23, 24, 25, 26, 27, 28, 29, 30, 31, 32, 33, 34, 35, 36, 37, 38, 39, 40, 41, 42, 43, 44, 45, 46, 47, 48, 49, 50, 51, 52, 53, 54, 55, 56, 57, 58, 59, 60, 61, 62, 63, 64, 65, 66, 67, 68, 69, 70, 71, 72, 73, 74, 75, 76, 77]) (by kernel_rfl) ?_
  refine wpOps_val (S := M2 w x y) (i := 0) (v := ?_) (oi := ⟨some 11, .fieldAddr 43 (.tmp 2) 0, 0, "ref.go:78", #[], none⟩) (by kernel_rfl) (Or.inl ⟨by kernel_rfl, ?hy0⟩) (by assumption) ?_
  case hy0 => (intro wI hSw; (try dsimp only at hSw); obtain ⟨xa, xb, xc, xd, xe, xf, xg, xh, xi, xj⟩ := hSw.bx.all; obtain ⟨ya, yb, yc, yd, ye, yf, yg, yh, yi, yj⟩ := hSw.by_.all; go_simp; try with_reducible rfl)
  try simp only [Act.put, lqD, lqE, lqF]
  refine wpOps_val (S := M2 w x y) (i := 1) (v := ?_) (oi := ⟨some 12, .load 4 (.tmp 11), 4, "ref.go:78", #[⟨0, .data⟩], none⟩) (by kernel_rfl) (Or.inl ⟨by kernel_rfl, ?hy1⟩) (by assumption) ?_
  case hy1 => (intro wI hSw; (try dsimp only at hSw); obtain ⟨xa, xb, xc, xd, xe, xf, xg, xh, xi, xj⟩ := hSw.bx.all; obtain ⟨ya, yb, yc, yd, ye, yf, yg, yh, yi, yj⟩ := hSw.by_.all; go_simp; try with_reducible rfl)
  try simp only [Act.put, lqD, lqE, lqF]
  refine wpOps_val (S := M2 w x y) (i := 2) (v := ?_) (oi := ⟨some 13, .fieldAddr 43 (.tmp 3) 0, 0, "ref.go:78", #[], none⟩) (by kernel_rfl) (Or.inl ⟨by kernel_rfl, ?hy2⟩) (by assumption) ?_
  case hy2 => (intro wI hSw; (try dsimp only at hSw); obtain ⟨xa, xb, xc, xd, xe, xf, xg, xh, xi, xj⟩ := hSw.bx.all; obtain ⟨ya, yb, yc, yd, ye, yf, yg, yh, yi, yj⟩ := hSw.by_.all; go_simp; try with_reducible rfl)
  try simp only [Act.put, lqD, lqE, lqF]
  refine wpOps_val (S := M2 w x y) (i := 3) (v := ?_) (oi := ⟨some 14, .load 4 (.tmp 13), 4, "ref.go:78", #[⟨2, .data⟩], none⟩) (by kernel_rfl) (Or.inl ⟨by kernel_rfl, ?hy3⟩) (by assumption) ?_
  case hy3 => (intro wI hSw; (try dsimp only at hSw); obtain ⟨xa, xb, xc, xd, xe, xf, xg, xh, xi, xj⟩ := hSw.bx.all; obtain ⟨ya, yb, yc, yd, ye, yf, yg, yh, yi, yj⟩ := hSw.by_.all; go_simp; try with_reducible rfl)
  try simp only [Act.put, lqD, lqE, lqF]
  refine wpOps_val (S := M2 w x y) (i := 4) (v := .bool d0) (oi := ⟨some 15, .binOp .neq 4 (.tmp 12) (.tmp 14) 4, 4, "ref.go:78", #[⟨1, .data⟩, ⟨3, .data⟩], none⟩) (by kernel_rfl) ?hy4 (by assumption) ?_
  case hy4 => (exact Or.inl ⟨by kernel_rfl, fun w hSw => by (try dsimp only at hSw); go_simp; (rw [← hd0]; cases x.at_ <;> cases y.at_ <;> rfl)⟩)
  try simp only [Act.put, lqD, lqE, lqF]
  refine wpOps_val (S := M2 w x y) (i := 5) (v := ?_) (oi := ⟨some 16, .move (.tmp 15), 4, "ref.go:78", #[⟨4, .data⟩], none⟩) (by kernel_rfl) (Or.inl ⟨by kernel_rfl, ?hy5⟩) (by assumption) ?_
  case hy5 => (intro wI hSw; (try dsimp only at hSw); obtain ⟨xa, xb, xc, xd, xe, xf, xg, xh, xi, xj⟩ := hSw.bx.all; obtain ⟨ya, yb, yc, yd, ye, yf, yg, yh, yi, yj⟩ := hSw.by_.all; go_simp; try with_reducible rfl)
  try simp only [Act.put, lqD, lqE, lqF]
  refine wpOps_val (S := M2 w x y) (i := 6) (v := bif d0 then undef else .pointer (some ⟨w.heap.size, 1, none⟩)) (oi := ⟨some 17, .fieldAddr 43 (.tmp 2) 1, 0, "ref.go:78", #[⟨5, .guard⟩], some (5, false)⟩) (by kernel_rfl) ?hy6 (by assumption) ?_
  case hy6 => (cases d0; (exact Or.inl ⟨by kernel_rfl, fun w hSw => by (try dsimp only at hSw); go_simp⟩); exact Or.inr ⟨by kernel_rfl, rfl⟩)
  try simp only [Act.put, lqD, lqE, lqF]
  refine wpOps_val (S := M2 w x y) (i := 7) (v := bif d0 then undef else .int .i64 x.buf) (oi := ⟨some 18, .load 3 (.tmp 17), 3, "ref.go:78", #[⟨6, .data⟩, ⟨5, .guard⟩], some (5, false)⟩) (by kernel_rfl) ?hy7 (by assumption) ?_
  case hy7 => (cases d0; (exact Or.inl ⟨by kernel_rfl, fun w hSw => by (try dsimp only at hSw); obtain ⟨xa, xb, xc, xd, xe, xf, xg, xh, xi, xj⟩ := hSw.bx.all; obtain ⟨ya, yb, yc, yd, ye, yf, yg, yh, yi, yj⟩ := hSw.by_.all; go_simp⟩); exact Or.inr ⟨by kernel_rfl, rfl⟩)
  try simp only [Act.put, lqD, lqE, lqF]
  refine wpOps_val (S := M2 w x y) (i := 8) (v := bif d0 then undef else .pointer (some ⟨w.heap.size + 1, 1, none⟩)) (oi := ⟨some 19, .fieldAddr 43 (.tmp 3) 1, 0, "ref.go:78", #[⟨5, .guard⟩], some (5, false)⟩) (by kernel_rfl) ?hy8 (by assumption) ?_
  case hy8 => (cases d0; (exact Or.inl ⟨by kernel_rfl, fun w hSw => by (try dsimp only at hSw); go_simp⟩); exact Or.inr ⟨by kernel_rfl, rfl⟩)
  try simp only [Act.put, lqD, lqE, lqF]
  refine wpOps_val (S := M2 w x y) (i := 9) (v := bif d0 then undef else .int .i64 y.buf) (oi := ⟨some 20, .load 3 (.tmp 19), 3, "ref.go:78", #[⟨8, .data⟩, ⟨5, .guard⟩], some (5, false)⟩) (by kernel_rfl) ?hy9 (by assumption) ?_
  case hy9 => (cases d0; (exact Or.inl ⟨by kernel_rfl, fun w hSw => by (try dsimp only at hSw); obtain ⟨xa, xb, xc, xd, xe, xf, xg, xh, xi, xj⟩ := hSw.bx.all; obtain ⟨ya, yb, yc, yd, ye, yf, yg, yh, yi, yj⟩ := hSw.by_.all; go_simp⟩); exact Or.inr ⟨by kernel_rfl, rfl⟩)
  try simp only [Act.put, lqD, lqE, lqF]
  refine wpOps_val (S := M2 w x y) (i := 10) (v := bif d0 then undef else .bool d1) (oi := ⟨some 21, .binOp .neq 3 (.tmp 18) (.tmp 20) 3, 4, "ref.go:78", #[⟨7, .data⟩, ⟨9, .data⟩, ⟨5, .guard⟩], some (5, false)⟩) (by kernel_rfl) ?hy10 (by assumption) ?_
  case hy10 => (cases d0; (exact Or.inl ⟨by kernel_rfl, fun w hSw => by (try dsimp only at hSw); go_simp⟩); exact Or.inr ⟨by kernel_rfl, rfl⟩)
  try simp only [Act.put, lqD, lqE, lqF]
  refine wpOps_val (S := M2 w x y) (i := 11) (v := .bool c1) (oi := ⟨some 22, .pick (.tmp 16) (.const (Value.bool true)) (.tmp 21), 4, "ref.go:78", #[⟨5, .data⟩, ⟨10, .data⟩], none⟩) (by kernel_rfl) ?hy11 (by assumption) ?_
  case hy11 => (subst hc1; cases d0 <;> exact Or.inl ⟨by kernel_rfl, fun w hSw => by (try dsimp only at hSw); go_simp⟩)
  try simp only [Act.put, lqD, lqE, lqF]
  refine wpOps_val (S := M2 w x y) (i := 12) (v := ?_) (oi := ⟨some 23, .move (.tmp 22), 4, "ref.go:78", #[⟨11, .data⟩, ⟨5, .chain⟩], none⟩) (by kernel_rfl) (Or.inl ⟨by kernel_rfl, ?hy12⟩) (by assumption) ?_
  case hy12 => (intro wI hSw; (try dsimp only at hSw); obtain ⟨xa, xb, xc, xd, xe, xf, xg, xh, xi, xj⟩ := hSw.bx.all; obtain ⟨ya, yb, yc, yd, ye, yf, yg, yh, yi, yj⟩ := hSw.by_.all; go_simp; try with_reducible rfl)
  try simp only [Act.put, lqD, lqE, lqF]
  refine wpOps_val (S := M2 w x y) (i := 13) (v := bif c1 then undef else .pointer (some ⟨w.heap.size, 4, none⟩)) (oi := ⟨some 24, .fieldAddr 43 (.tmp 2) 4, 0, "ref.go:78", #[⟨12, .guard⟩], some (12, false)⟩) (by kernel_rfl) ?hy13 (by assumption) ?_
  case hy13 => (cases c1; (exact Or.inl ⟨by kernel_rfl, fun w hSw => by (try dsimp only at hSw); go_simp⟩); exact Or.inr ⟨by kernel_rfl, rfl⟩)
  try simp only [Act.put, lqD, lqE, lqF]
  refine wpOps_val (S := M2 w x y) (i := 14) (v := bif c1 then undef else .bool x.inp) (oi := ⟨some 25, .load 4 (.tmp 24), 4, "ref.go:78", #[⟨13, .data⟩, ⟨12, .guard⟩], some (12, false)⟩) (by kernel_rfl) ?hy14 (by assumption) ?_
  case hy14 => (cases c1; (exact Or.inl ⟨by kernel_rfl, fun w hSw => by (try dsimp only at hSw); obtain ⟨xa, xb, xc, xd, xe, xf, xg, xh, xi, xj⟩ := hSw.bx.all; obtain ⟨ya, yb, yc, yd, ye, yf, yg, yh, yi, yj⟩ := hSw.by_.all; go_simp⟩); exact Or.inr ⟨by kernel_rfl, rfl⟩)
  try simp only [Act.put, lqD, lqE, lqF]
  refine wpOps_val (S := M2 w x y) (i := 15) (v := bif c1 then undef else .pointer (some ⟨w.heap.size + 1, 4, none⟩)) (oi := ⟨some 26, .fieldAddr 43 (.tmp 3) 4, 0, "ref.go:78", #[⟨12, .guard⟩], some (12, false)⟩) (by kernel_rfl) ?hy15 (by assumption) ?_
  case hy15 => (cases c1; (exact Or.inl ⟨by kernel_rfl, fun w hSw => by (try dsimp only at hSw); go_simp⟩); exact Or.inr ⟨by kernel_rfl, rfl⟩)
  try simp only [Act.put, lqD, lqE, lqF]
  refine wpOps_val (S := M2 w x y) (i := 16) (v := bif c1 then undef else .bool y.inp) (oi := ⟨some 27, .load 4 (.tmp 26), 4, "ref.go:78", #[⟨15, .data⟩, ⟨12, .guard⟩], some (12, false)⟩) (by kernel_rfl) ?hy16 (by assumption) ?_
  case hy16 => (cases c1; (exact Or.inl ⟨by kernel_rfl, fun w hSw => by (try dsimp only at hSw); obtain ⟨xa, xb, xc, xd, xe, xf, xg, xh, xi, xj⟩ := hSw.bx.all; obtain ⟨ya, yb, yc, yd, ye, yf, yg, yh, yi, yj⟩ := hSw.by_.all; go_simp⟩); exact Or.inr ⟨by kernel_rfl, rfl⟩)
  try simp only [Act.put, lqD, lqE, lqF]
  refine wpOps_val (S := M2 w x y) (i := 17) (v := bif c1 then undef else .bool d2) (oi := ⟨some 28, .binOp .neq 4 (.tmp 25) (.tmp 27) 4, 4, "ref.go:78", #[⟨14, .data⟩, ⟨16, .data⟩, ⟨12, .guard⟩], some (12, false)⟩) (by kernel_rfl) ?hy17 (by assumption) ?_
  case hy17 => (cases c1; (exact Or.inl ⟨by kernel_rfl, fun w hSw => by (try dsimp only at hSw); go_simp; (rw [← hd2]; cases x.inp <;> cases y.inp <;> rfl)⟩); exact Or.inr ⟨by kernel_rfl, rfl⟩)
  try simp only [Act.put, lqD, lqE, lqF]
  refine wpOps_val (S := M2 w x y) (i := 18) (v := .bool c2) (oi := ⟨some 29, .pick (.tmp 23) (.const (Value.bool true)) (.tmp 28), 4, "ref.go:78", #[⟨12, .data⟩, ⟨17, .data⟩], none⟩) (by kernel_rfl) ?hy18 (by assumption) ?_
  case hy18 => (subst hc2; cases c1 <;> exact Or.inl ⟨by kernel_rfl, fun w hSw => by (try dsimp only at hSw); go_simp⟩)
  try simp only [Act.put, lqD, lqE, lqF]
  refine wpOps_val (S := M2 w x y) (i := 19) (v := ?_) (oi := ⟨some 30, .move (.tmp 29), 4, "ref.go:78", #[⟨18, .data⟩, ⟨12, .chain⟩], none⟩) (by kernel_rfl) (Or.inl ⟨by kernel_rfl, ?hy19⟩) (by assumption) ?_
  case hy19 => (intro wI hSw; (try dsimp only at hSw); obtain ⟨xa, xb, xc, xd, xe, xf, xg, xh, xi, xj⟩ := hSw.bx.all; obtain ⟨ya, yb, yc, yd, ye, yf, yg, yh, yi, yj⟩ := hSw.by_.all; go_simp; try with_reducible rfl)
  try simp only [Act.put, lqD, lqE, lqF]
  refine wpOps_val (S := M2 w x y) (i := 20) (v := bif c2 then undef else .pointer (some ⟨w.heap.size, 5, none⟩)) (oi := ⟨some 31, .fieldAddr 43 (.tmp 2) 5, 0, "ref.go:78", #[⟨19, .guard⟩], some (19, false)⟩) (by kernel_rfl) ?hy20 (by assumption) ?_
  case hy20 => (cases c2; (exact Or.inl ⟨by kernel_rfl, fun w hSw => by (try dsimp only at hSw); go_simp⟩); exact Or.inr ⟨by kernel_rfl, rfl⟩)
  try simp only [Act.put, lqD, lqE, lqF]
  refine wpOps_val (S := M2 w x y) (i := 21) (v := bif c2 then undef else .bool x.all) (oi := ⟨some 32, .load 4 (.tmp 31), 4, "ref.go:78", #[⟨20, .data⟩, ⟨19, .guard⟩], some (19, false)⟩) (by kernel_rfl) ?hy21 (by assumption) ?_
  case hy21 => (cases c2; (exact Or.inl ⟨by kernel_rfl, fun w hSw => by (try dsimp only at hSw); obtain ⟨xa, xb, xc, xd, xe, xf, xg, xh, xi, xj⟩ := hSw.bx.all; obtain ⟨ya, yb, yc, yd, ye, yf, yg, yh, yi, yj⟩ := hSw.by_.all; go_simp⟩); exact Or.inr ⟨by kernel_rfl, rfl⟩)
  try simp only [Act.put, lqD, lqE, lqF]
  refine wpOps_val (S := M2 w x y) (i := 22) (v := bif c2 then undef else .pointer (some ⟨w.heap.size + 1, 5, none⟩)) (oi := ⟨some 33, .fieldAddr 43 (.tmp 3) 5, 0, "ref.go:78", #[⟨19, .guard⟩], some (19, false)⟩) (by kernel_rfl) ?hy22 (by assumption) ?_
  case hy22 => (cases c2; (exact Or.inl ⟨by kernel_rfl, fun w hSw => by (try dsimp only at hSw); go_simp⟩); exact Or.inr ⟨by kernel_rfl, rfl⟩)
  try simp only [Act.put, lqD, lqE, lqF]
  refine wpOps_val (S := M2 w x y) (i := 23) (v := bif c2 then undef else .bool y.all) (oi := ⟨some 34, .load 4 (.tmp 33), 4, "ref.go:78", #[⟨22, .data⟩, ⟨19, .guard⟩], some (19, false)⟩) (by kernel_rfl) ?hy23 (by assumption) ?_
  case hy23 => (cases c2; (exact Or.inl ⟨by kernel_rfl, fun w hSw => by (try dsimp only at hSw); obtain ⟨xa, xb, xc, xd, xe, xf, xg, xh, xi, xj⟩ := hSw.bx.all; obtain ⟨ya, yb, yc, yd, ye, yf, yg, yh, yi, yj⟩ := hSw.by_.all; go_simp⟩); exact Or.inr ⟨by kernel_rfl, rfl⟩)
  try simp only [Act.put, lqD, lqE, lqF]
  refine wpOps_val (S := M2 w x y) (i := 24) (v := bif c2 then undef else .bool d3) (oi := ⟨some 35, .binOp .neq 4 (.tmp 32) (.tmp 34) 4, 4, "ref.go:78", #[⟨21, .data⟩, ⟨23, .data⟩, ⟨19, .guard⟩], some (19, false)⟩) (by kernel_rfl) ?hy24 (by assumption) ?_
  case hy24 => (cases c2; (exact Or.inl ⟨by kernel_rfl, fun w hSw => by (try dsimp only at hSw); go_simp; (rw [← hd3]; cases x.all <;> cases y.all <;> rfl)⟩); exact Or.inr ⟨by kernel_rfl, rfl⟩)
  try simp only [Act.put, lqD, lqE, lqF]
  refine wpOps_val (S := M2 w x y) (i := 25) (v := .bool c3) (oi := ⟨some 36, .pick (.tmp 30) (.const (Value.bool true)) (.tmp 35), 4, "ref.go:78", #[⟨19, .data⟩, ⟨24, .data⟩], none⟩) (by kernel_rfl) ?hy25 (by assumption) ?_
  case hy25 => (subst hc3; cases c2 <;> exact Or.inl ⟨by kernel_rfl, fun w hSw => by (try dsimp only at hSw); go_simp⟩)
  try simp only [Act.put, lqD, lqE, lqF]
  refine wpOps_val (S := M2 w x y) (i := 26) (v := ?_) (oi := ⟨some 37, .move (.tmp 36), 4, "ref.go:78", #[⟨25, .data⟩, ⟨19, .chain⟩], none⟩) (by kernel_rfl) (Or.inl ⟨by kernel_rfl, ?hy26⟩) (by assumption) ?_
  case hy26 => (intro wI hSw; (try dsimp only at hSw); obtain ⟨xa, xb, xc, xd, xe, xf, xg, xh, xi, xj⟩ := hSw.bx.all; obtain ⟨ya, yb, yc, yd, ye, yf, yg, yh, yi, yj⟩ := hSw.by_.all; go_simp; try with_reducible rfl)
  try simp only [Act.put, lqD, lqE, lqF]
  refine wpOps_val (S := M2 w x y) (i := 27) (v := bif c3 then undef else .pointer (some ⟨w.heap.size, 7, none⟩)) (oi := ⟨some 38, .fieldAddr 43 (.tmp 2) 7, 0, "ref.go:78", #[⟨26, .guard⟩], some (26, false)⟩) (by kernel_rfl) ?hy27 (by assumption) ?_
  case hy27 => (cases c3; (exact Or.inl ⟨by kernel_rfl, fun w hSw => by (try dsimp only at hSw); go_simp⟩); exact Or.inr ⟨by kernel_rfl, rfl⟩)
  try simp only [Act.put, lqD, lqE, lqF]
  refine wpOps_val (S := M2 w x y) (i := 28) (v := bif c3 then undef else .bool x.ord) (oi := ⟨some 39, .load 4 (.tmp 38), 4, "ref.go:78", #[⟨27, .data⟩, ⟨26, .guard⟩], some (26, false)⟩) (by kernel_rfl) ?hy28 (by assumption) ?_
  case hy28 => (cases c3; (exact Or.inl ⟨by kernel_rfl, fun w hSw => by (try dsimp only at hSw); obtain ⟨xa, xb, xc, xd, xe, xf, xg, xh, xi, xj⟩ := hSw.bx.all; obtain ⟨ya, yb, yc, yd, ye, yf, yg, yh, yi, yj⟩ := hSw.by_.all; go_simp⟩); exact Or.inr ⟨by kernel_rfl, rfl⟩)
  try simp only [Act.put, lqD, lqE, lqF]
  refine wpOps_val (S := M2 w x y) (i := 29) (v := bif c3 then undef else .pointer (some ⟨w.heap.size + 1, 7, none⟩)) (oi := ⟨some 40, .fieldAddr 43 (.tmp 3) 7, 0, "ref.go:78", #[⟨26, .guard⟩], some (26, false)⟩) (by kernel_rfl) ?hy29 (by assumption) ?_
  case hy29 => (cases c3; (exact Or.inl ⟨by kernel_rfl, fun w hSw => by (try dsimp only at hSw); go_simp⟩); exact Or.inr ⟨by kernel_rfl, rfl⟩)
  try simp only [Act.put, lqD, lqE, lqF]
  refine wpOps_val (S := M2 w x y) (i := 30) (v := bif c3 then undef else .bool y.ord) (oi := ⟨some 41, .load 4 (.tmp 40), 4, "ref.go:78", #[⟨29, .data⟩, ⟨26, .guard⟩], some (26, false)⟩) (by kernel_rfl) ?hy30 (by assumption) ?_
  case hy30 => (cases c3; (exact Or.inl ⟨by kernel_rfl, fun w hSw => by (try dsimp only at hSw); obtain ⟨xa, xb, xc, xd, xe, xf, xg, xh, xi, xj⟩ := hSw.bx.all; obtain ⟨ya, yb, yc, yd, ye, yf, yg, yh, yi, yj⟩ := hSw.by_.all; go_simp⟩); exact Or.inr ⟨by kernel_rfl, rfl⟩)
  try simp only [Act.put, lqD, lqE, lqF]
  refine wpOps_val (S := M2 w x y) (i := 31) (v := bif c3 then undef else .bool d4) (oi := ⟨some 42, .binOp .neq 4 (.tmp 39) (.tmp 41) 4, 4, "ref.go:78", #[⟨28, .data⟩, ⟨30, .data⟩, ⟨26, .guard⟩], some (26, false)⟩) (by kernel_rfl) ?hy31 (by assumption) ?_
  case hy31 => (cases c3; (exact Or.inl ⟨by kernel_rfl, fun w hSw => by (try dsimp only at hSw); go_simp; (rw [← hd4]; cases x.ord <;> cases y.ord <;> rfl)⟩); exact Or.inr ⟨by kernel_rfl, rfl⟩)
  try simp only [Act.put, lqD, lqE, lqF]
  refine wpOps_val (S := M2 w x y) (i := 32) (v := .bool c4) (oi := ⟨some 43, .pick (.tmp 37) (.const (Value.bool true)) (.tmp 42), 4, "ref.go:78", #[⟨26, .data⟩, ⟨31, .data⟩], none⟩) (by kernel_rfl) ?hy32 (by assumption) ?_
  case hy32 => (subst hc4; cases c3 <;> exact Or.inl ⟨by kernel_rfl, fun w hSw => by (try dsimp only at hSw); go_simp⟩)
  try simp only [Act.put, lqD, lqE, lqF]
  refine wpOps_val (S := M2 w x y) (i := 33) (v := ?_) (oi := ⟨some 44, .move (.tmp 43), 4, "ref.go:78", #[⟨32, .data⟩, ⟨26, .chain⟩], none⟩) (by kernel_rfl) (Or.inl ⟨by kernel_rfl, ?hy33⟩) (by assumption) ?_
  case hy33 => (intro wI hSw; (try dsimp only at hSw); obtain ⟨xa, xb, xc, xd, xe, xf, xg, xh, xi, xj⟩ := hSw.bx.all; obtain ⟨ya, yb, yc, yd, ye, yf, yg, yh, yi, yj⟩ := hSw.by_.all; go_simp; try with_reducible rfl)
  try simp only [Act.put, lqD, lqE, lqF]
  refine wpOps_val (S := M2 w x y) (i := 34) (v := bif c4 then undef else .pointer (some ⟨w.heap.size, 2, none⟩)) (oi := ⟨some 45, .fieldAddr 43 (.tmp 2) 2, 0, "ref.go:78", #[⟨33, .guard⟩], some (33, false)⟩) (by kernel_rfl) ?hy34 (by assumption) ?_
  case hy34 => (cases c4; (exact Or.inl ⟨by kernel_rfl, fun w hSw => by (try dsimp only at hSw); go_simp⟩); exact Or.inr ⟨by kernel_rfl, rfl⟩)
  try simp only [Act.put, lqD, lqE, lqF]
  refine wpOps_val (S := M2 w x y) (i := 35) (v := bif c4 then undef else .slice x.dm.a x.dm.n x.dm.c) (oi := ⟨some 46, .load 31 (.tmp 45), 31, "ref.go:78", #[⟨34, .data⟩, ⟨33, .guard⟩], some (33, false)⟩) (by kernel_rfl) ?hy35 (by assumption) ?_
  case hy35 => (cases c4; (exact Or.inl ⟨by kernel_rfl, fun w hSw => by (try dsimp only at hSw); obtain ⟨xa, xb, xc, xd, xe, xf, xg, xh, xi, xj⟩ := hSw.bx.all; obtain ⟨ya, yb, yc, yd, ye, yf, yg, yh, yi, yj⟩ := hSw.by_.all; go_simp⟩); exact Or.inr ⟨by kernel_rfl, rfl⟩)
  try simp only [Act.put, lqD, lqE, lqF]
  refine wpOps_val (S := M2 w x y) (i := 36) (v := bif c4 then undef else .int .i64 x.dm.n) (oi := ⟨some 47, .call { callee := .builtin Builtin.len, args := #[.tmp 46], argTypes := #[31] }, 3, "ref.go:78", #[⟨35, .data⟩, ⟨33, .guard⟩], some (33, false)⟩) (by kernel_rfl) ?hy36 (by assumption) ?_
  case hy36 => (cases c4; (exact Or.inl ⟨by kernel_rfl, fun w hSw => by (try dsimp only at hSw); go_simp⟩); exact Or.inr ⟨by kernel_rfl, rfl⟩)
  try simp only [Act.put, lqD, lqE, lqF]
  refine wpOps_val (S := M2 w x y) (i := 37) (v := bif c4 then undef else .pointer (some ⟨w.heap.size + 1, 2, none⟩)) (oi := ⟨some 48, .fieldAddr 43 (.tmp 3) 2, 0, "ref.go:78", #[⟨33, .guard⟩], some (33, false)⟩) (by kernel_rfl) ?hy37 (by assumption) ?_
  case hy37 => (cases c4; (exact Or.inl ⟨by kernel_rfl, fun w hSw => by (try dsimp only at hSw); go_simp⟩); exact Or.inr ⟨by kernel_rfl, rfl⟩)
  try simp only [Act.put, lqD, lqE, lqF]
  refine wpOps_val (S := M2 w x y) (i := 38) (v := bif c4 then undef else .slice y.dm.a y.dm.n y.dm.c) (oi := ⟨some 49, .load 31 (.tmp 48), 31, "ref.go:78", #[⟨37, .data⟩, ⟨33, .guard⟩], some (33, false)⟩) (by kernel_rfl) ?hy38 (by assumption) ?_
  case hy38 => (cases c4; (exact Or.inl ⟨by kernel_rfl, fun w hSw => by (try dsimp only at hSw); obtain ⟨xa, xb, xc, xd, xe, xf, xg, xh, xi, xj⟩ := hSw.bx.all; obtain ⟨ya, yb, yc, yd, ye, yf, yg, yh, yi, yj⟩ := hSw.by_.all; go_simp⟩); exact Or.inr ⟨by kernel_rfl, rfl⟩)
  try simp only [Act.put, lqD, lqE, lqF]
  refine wpOps_val (S := M2 w x y) (i := 39) (v := bif c4 then undef else .int .i64 y.dm.n) (oi := ⟨some 50, .call { callee := .builtin Builtin.len, args := #[.tmp 49], argTypes := #[31] }, 3, "ref.go:78", #[⟨38, .data⟩, ⟨33, .guard⟩], some (33, false)⟩) (by kernel_rfl) ?hy39 (by assumption) ?_
  case hy39 => (cases c4; (exact Or.inl ⟨by kernel_rfl, fun w hSw => by (try dsimp only at hSw); go_simp⟩); exact Or.inr ⟨by kernel_rfl, rfl⟩)
  try simp only [Act.put, lqD, lqE, lqF]
  refine wpOps_val (S := M2 w x y) (i := 40) (v := bif c4 then undef else .bool d5) (oi := ⟨some 51, .binOp .neq 3 (.tmp 47) (.tmp 50) 3, 4, "ref.go:78", #[⟨36, .data⟩, ⟨39, .data⟩, ⟨33, .guard⟩], some (33, false)⟩) (by kernel_rfl) ?hy40 (by assumption) ?_
  case hy40 => (cases c4; (exact Or.inl ⟨by kernel_rfl, fun w hSw => by (try dsimp only at hSw); go_simp⟩); exact Or.inr ⟨by kernel_rfl, rfl⟩)
  try simp only [Act.put, lqD, lqE, lqF]
  refine wpOps_val (S := M2 w x y) (i := 41) (v := .bool c5) (oi := ⟨some 52, .pick (.tmp 44) (.const (Value.bool true)) (.tmp 51), 4, "ref.go:78", #[⟨33, .data⟩, ⟨40, .data⟩], none⟩) (by kernel_rfl) ?hy41 (by assumption) ?_
  case hy41 => (subst hc5; cases c4 <;> exact Or.inl ⟨by kernel_rfl, fun w hSw => by (try dsimp only at hSw); go_simp⟩)
  try simp only [Act.put, lqD, lqE, lqF]
  refine wpOps_val (S := M2 w x y) (i := 42) (v := ?_) (oi := ⟨some 53, .move (.tmp 52), 4, "ref.go:78", #[⟨41, .data⟩, ⟨33, .chain⟩], none⟩) (by kernel_rfl) (Or.inl ⟨by kernel_rfl, ?hy42⟩) (by assumption) ?_
  case hy42 => (intro wI hSw; (try dsimp only at hSw); obtain ⟨xa, xb, xc, xd, xe, xf, xg, xh, xi, xj⟩ := hSw.bx.all; obtain ⟨ya, yb, yc, yd, ye, yf, yg, yh, yi, yj⟩ := hSw.by_.all; go_simp; try with_reducible rfl)
  try simp only [Act.put, lqD, lqE, lqF]
  refine wpOps_val (S := M2 w x y) (i := 43) (v := bif c5 then undef else .pointer (some ⟨w.heap.size, 3, none⟩)) (oi := ⟨some 54, .fieldAddr 43 (.tmp 2) 3, 0, "ref.go:78", #[⟨42, .guard⟩], some (42, false)⟩) (by kernel_rfl) ?hy43 (by assumption) ?_
  case hy43 => (cases c5; (exact Or.inl ⟨by kernel_rfl, fun w hSw => by (try dsimp only at hSw); go_simp⟩); exact Or.inr ⟨by kernel_rfl, rfl⟩)
  try simp only [Act.put, lqD, lqE, lqF]
  refine wpOps_val (S := M2 w x y) (i := 44) (v := bif c5 then undef else .slice x.fr.a x.fr.n x.fr.c) (oi := ⟨some 55, .load 40 (.tmp 54), 40, "ref.go:78", #[⟨43, .data⟩, ⟨42, .guard⟩], some (42, false)⟩) (by kernel_rfl) ?hy44 (by assumption) ?_
  case hy44 => (cases c5; (exact Or.inl ⟨by kernel_rfl, fun w hSw => by (try dsimp only at hSw); obtain ⟨xa, xb, xc, xd, xe, xf, xg, xh, xi, xj⟩ := hSw.bx.all; obtain ⟨ya, yb, yc, yd, ye, yf, yg, yh, yi, yj⟩ := hSw.by_.all; go_simp⟩); exact Or.inr ⟨by kernel_rfl, rfl⟩)
  try simp only [Act.put, lqD, lqE, lqF]
  refine wpOps_val (S := M2 w x y) (i := 45) (v := bif c5 then undef else .int .i64 x.fr.n) (oi := ⟨some 56, .call { callee := .builtin Builtin.len, args := #[.tmp 55], argTypes := #[40] }, 3, "ref.go:78", #[⟨44, .data⟩, ⟨42, .guard⟩], some (42, false)⟩) (by kernel_rfl) ?hy45 (by assumption) ?_
  case hy45 => (cases c5; (exact Or.inl ⟨by kernel_rfl, fun w hSw => by (try dsimp only at hSw); go_simp⟩); exact Or.inr ⟨by kernel_rfl, rfl⟩)
  try simp only [Act.put, lqD, lqE, lqF]
  refine wpOps_val (S := M2 w x y) (i := 46) (v := bif c5 then undef else .pointer (some ⟨w.heap.size + 1, 3, none⟩)) (oi := ⟨some 57, .fieldAddr 43 (.tmp 3) 3, 0, "ref.go:78", #[⟨42, .guard⟩], some (42, false)⟩) (by kernel_rfl) ?hy46 (by assumption) ?_
  case hy46 => (cases c5; (exact Or.inl ⟨by kernel_rfl, fun w hSw => by (try dsimp only at hSw); go_simp⟩); exact Or.inr ⟨by kernel_rfl, rfl⟩)
  try simp only [Act.put, lqD, lqE, lqF]
  refine wpOps_val (S := M2 w x y) (i := 47) (v := bif c5 then undef else .slice y.fr.a y.fr.n y.fr.c) (oi := ⟨some 58, .load 40 (.tmp 57), 40, "ref.go:78", #[⟨46, .data⟩, ⟨42, .guard⟩], some (42, false)⟩) (by kernel_rfl) ?hy47 (by assumption) ?_
  case hy47 => (cases c5; (exact Or.inl ⟨by kernel_rfl, fun w hSw => by (try dsimp only at hSw); obtain ⟨xa, xb, xc, xd, xe, xf, xg, xh, xi, xj⟩ := hSw.bx.all; obtain ⟨ya, yb, yc, yd, ye, yf, yg, yh, yi, yj⟩ := hSw.by_.all; go_simp⟩); exact Or.inr ⟨by kernel_rfl, rfl⟩)
  try simp only [Act.put, lqD, lqE, lqF]
  refine wpOps_val (S := M2 w x y) (i := 48) (v := bif c5 then undef else .int .i64 y.fr.n) (oi := ⟨some 59, .call { callee := .builtin Builtin.len, args := #[.tmp 58], argTypes := #[40] }, 3, "ref.go:78", #[⟨47, .data⟩, ⟨42, .guard⟩], some (42, false)⟩) (by kernel_rfl) ?hy48 (by assumption) ?_
  case hy48 => (cases c5; (exact Or.inl ⟨by kernel_rfl, fun w hSw => by (try dsimp only at hSw); go_simp⟩); exact Or.inr ⟨by kernel_rfl, rfl⟩)
  try simp only [Act.put, lqD, lqE, lqF]
  refine wpOps_val (S := M2 w x y) (i := 49) (v := bif c5 then undef else .bool d6) (oi := ⟨some 60, .binOp .neq 3 (.tmp 56) (.tmp 59) 3, 4, "ref.go:78", #[⟨45, .data⟩, ⟨48, .data⟩, ⟨42, .guard⟩], some (42, false)⟩) (by kernel_rfl) ?hy49 (by assumption) ?_
  case hy49 => (cases c5; (exact Or.inl ⟨by kernel_rfl, fun w hSw => by (try dsimp only at hSw); go_simp⟩); exact Or.inr ⟨by kernel_rfl, rfl⟩)
  try simp only [Act.put, lqD, lqE, lqF]
  refine wpOps_val (S := M2 w x y) (i := 50) (v := .bool c6) (oi := ⟨some 61, .pick (.tmp 53) (.const (Value.bool true)) (.tmp 60), 4, "ref.go:78", #[⟨42, .data⟩, ⟨49, .data⟩], none⟩) (by kernel_rfl) ?hy50 (by assumption) ?_
  case hy50 => (subst hc6; cases c5 <;> exact Or.inl ⟨by kernel_rfl, fun w hSw => by (try dsimp only at hSw); go_simp⟩)
  try simp only [Act.put, lqD, lqE, lqF]
  refine wpOps_val (S := M2 w x y) (i := 51) (v := ?_) (oi := ⟨some 62, .move (.tmp 61), 4, "ref.go:78", #[⟨50, .data⟩, ⟨42, .chain⟩], none⟩) (by kernel_rfl) (Or.inl ⟨by kernel_rfl, ?hy51⟩) (by assumption) ?_
  case hy51 => (intro wI hSw; (try dsimp only at hSw); obtain ⟨xa, xb, xc, xd, xe, xf, xg, xh, xi, xj⟩ := hSw.bx.all; obtain ⟨ya, yb, yc, yd, ye, yf, yg, yh, yi, yj⟩ := hSw.by_.all; go_simp; try with_reducible rfl)
  try simp only [Act.put, lqD, lqE, lqF]
  refine wpOps_val (S := M2 w x y) (i := 52) (v := bif c6 then undef else .pointer (some ⟨w.heap.size, 6, none⟩)) (oi := ⟨some 63, .fieldAddr 43 (.tmp 2) 6, 0, "ref.go:78", #[⟨51, .guard⟩], some (51, false)⟩) (by kernel_rfl) ?hy52 (by assumption) ?_
  case hy52 => (cases c6; (exact Or.inl ⟨by kernel_rfl, fun w hSw => by (try dsimp only at hSw); go_simp⟩); exact Or.inr ⟨by kernel_rfl, rfl⟩)
  try simp only [Act.put, lqD, lqE, lqF]
  refine wpOps_val (S := M2 w x y) (i := 53) (v := bif c6 then undef else .slice x.rg.a x.rg.n x.rg.c) (oi := ⟨some 64, .load 31 (.tmp 63), 31, "ref.go:78", #[⟨52, .data⟩, ⟨51, .guard⟩], some (51, false)⟩) (by kernel_rfl) ?hy53 (by assumption) ?_
  case hy53 => (cases c6; (exact Or.inl ⟨by kernel_rfl, fun w hSw => by (try dsimp only at hSw); obtain ⟨xa, xb, xc, xd, xe, xf, xg, xh, xi, xj⟩ := hSw.bx.all; obtain ⟨ya, yb, yc, yd, ye, yf, yg, yh, yi, yj⟩ := hSw.by_.all; go_simp⟩); exact Or.inr ⟨by kernel_rfl, rfl⟩)
  try simp only [Act.put, lqD, lqE, lqF]
  refine wpOps_val (S := M2 w x y) (i := 54) (v := bif c6 then undef else .int .i64 x.rg.n) (oi := ⟨some 65, .call { callee := .builtin Builtin.len, args := #[.tmp 64], argTypes := #[31] }, 3, "ref.go:78", #[⟨53, .data⟩, ⟨51, .guard⟩], some (51, false)⟩) (by kernel_rfl) ?hy54 (by assumption) ?_
  case hy54 => (cases c6; (exact Or.inl ⟨by kernel_rfl, fun w hSw => by (try dsimp only at hSw); go_simp⟩); exact Or.inr ⟨by kernel_rfl, rfl⟩)
  try simp only [Act.put, lqD, lqE, lqF]
  refine wpOps_val (S := M2 w x y) (i := 55) (v := bif c6 then undef else .pointer (some ⟨w.heap.size + 1, 6, none⟩)) (oi := ⟨some 66, .fieldAddr 43 (.tmp 3) 6, 0, "ref.go:78", #[⟨51, .guard⟩], some (51, false)⟩) (by kernel_rfl) ?hy55 (by assumption) ?_
  case hy55 => (cases c6; (exact Or.inl ⟨by kernel_rfl, fun w hSw => by (try dsimp only at hSw); go_simp⟩); exact Or.inr ⟨by kernel_rfl, rfl⟩)
  try simp only [Act.put, lqD, lqE, lqF]
  refine wpOps_val (S := M2 w x y) (i := 56) (v := bif c6 then undef else .slice y.rg.a y.rg.n y.rg.c) (oi := ⟨some 67, .load 31 (.tmp 66), 31, "ref.go:78", #[⟨55, .data⟩, ⟨51, .guard⟩], some (51, false)⟩) (by kernel_rfl) ?hy56 (by assumption) ?_
  case hy56 => (cases c6; (exact Or.inl ⟨by kernel_rfl, fun w hSw => by (try dsimp only at hSw); obtain ⟨xa, xb, xc, xd, xe, xf, xg, xh, xi, xj⟩ := hSw.bx.all; obtain ⟨ya, yb, yc, yd, ye, yf, yg, yh, yi, yj⟩ := hSw.by_.all; go_simp⟩); exact Or.inr ⟨by kernel_rfl, rfl⟩)
  try simp only [Act.put, lqD, lqE, lqF]
  refine wpOps_val (S := M2 w x y) (i := 57) (v := bif c6 then undef else .int .i64 y.rg.n) (oi := ⟨some 68, .call { callee := .builtin Builtin.len, args := #[.tmp 67], argTypes := #[31] }, 3, "ref.go:78", #[⟨56, .data⟩, ⟨51, .guard⟩], some (51, false)⟩) (by kernel_rfl) ?hy57 (by assumption) ?_
  case hy57 => (cases c6; (exact Or.inl ⟨by kernel_rfl, fun w hSw => by (try dsimp only at hSw); go_simp⟩); exact Or.inr ⟨by kernel_rfl, rfl⟩)
  try simp only [Act.put, lqD, lqE, lqF]
  refine wpOps_val (S := M2 w x y) (i := 58) (v := bif c6 then undef else .bool d7) (oi := ⟨some 69, .binOp .neq 3 (.tmp 65) (.tmp 68) 3, 4, "ref.go:78", #[⟨54, .data⟩, ⟨57, .data⟩, ⟨51, .guard⟩], some (51, false)⟩) (by kernel_rfl) ?hy58 (by assumption) ?_
  case hy58 => (cases c6; (exact Or.inl ⟨by kernel_rfl, fun w hSw => by (try dsimp only at hSw); go_simp⟩); exact Or.inr ⟨by kernel_rfl, rfl⟩)
  try simp only [Act.put, lqD, lqE, lqF]
  refine wpOps_val (S := M2 w x y) (i := 59) (v := .bool c7) (oi := ⟨some 70, .pick (.tmp 62) (.const (Value.bool true)) (.tmp 69), 4, "ref.go:78", #[⟨51, .data⟩, ⟨58, .data⟩], none⟩) (by kernel_rfl) ?hy59 (by assumption) ?_
  case hy59 => (subst hc7; cases c6 <;> exact Or.inl ⟨by kernel_rfl, fun w hSw => by (try dsimp only at hSw); go_simp⟩)
  try simp only [Act.put, lqD, lqE, lqF]
  refine wpOps_val (S := M2 w x y) (i := 60) (v := ?_) (oi := ⟨some 71, .move (.tmp 70), 4, "ref.go:78", #[⟨59, .data⟩, ⟨51, .chain⟩], none⟩) (by kernel_rfl) (Or.inl ⟨by kernel_rfl, ?hy60⟩) (by assumption) ?_
  case hy60 => (intro wI hSw; (try dsimp only at hSw); obtain ⟨xa, xb, xc, xd, xe, xf, xg, xh, xi, xj⟩ := hSw.bx.all; obtain ⟨ya, yb, yc, yd, ye, yf, yg, yh, yi, yj⟩ := hSw.by_.all; go_simp; try with_reducible rfl)
  try simp only [Act.put, lqD, lqE, lqF]
  refine wpOps_val (S := M2 w x y) (i := 61) (v := bif c7 then undef else .pointer (some ⟨w.heap.size, 8, none⟩)) (oi := ⟨some 72, .fieldAddr 43 (.tmp 2) 8, 0, "ref.go:78", #[⟨60, .guard⟩], some (60, false)⟩) (by kernel_rfl) ?hy61 (by assumption) ?_
  case hy61 => (cases c7; (exact Or.inl ⟨by kernel_rfl, fun w hSw => by (try dsimp only at hSw); go_simp⟩); exact Or.inr ⟨by kernel_rfl, rfl⟩)
  try simp only [Act.put, lqD, lqE, lqF]
  refine wpOps_val (S := M2 w x y) (i := 62) (v := bif c7 then undef else .slice x.od.a x.od.n x.od.c) (oi := ⟨some 73, .load 40 (.tmp 72), 40, "ref.go:78", #[⟨61, .data⟩, ⟨60, .guard⟩], some (60, false)⟩) (by kernel_rfl) ?hy62 (by assumption) ?_
  case hy62 => (cases c7; (exact Or.inl ⟨by kernel_rfl, fun w hSw => by (try dsimp only at hSw); obtain ⟨xa, xb, xc, xd, xe, xf, xg, xh, xi, xj⟩ := hSw.bx.all; obtain ⟨ya, yb, yc, yd, ye, yf, yg, yh, yi, yj⟩ := hSw.by_.all; go_simp⟩); exact Or.inr ⟨by kernel_rfl, rfl⟩)
  try simp only [Act.put, lqD, lqE, lqF]
  refine wpOps_val (S := M2 w x y) (i := 63) (v := bif c7 then undef else .int .i64 x.od.n) (oi := ⟨some 74, .call { callee := .builtin Builtin.len, args := #[.tmp 73], argTypes := #[40] }, 3, "ref.go:78", #[⟨62, .data⟩, ⟨60, .guard⟩], some (60, false)⟩) (by kernel_rfl) ?hy63 (by assumption) ?_
  case hy63 => (cases c7; (exact Or.inl ⟨by kernel_rfl, fun w hSw => by (try dsimp only at hSw); go_simp⟩); exact Or.inr ⟨by kernel_rfl, rfl⟩)
  try simp only [Act.put, lqD, lqE, lqF]
  refine wpOps_val (S := M2 w x y) (i := 64) (v := bif c7 then undef else .pointer (some ⟨w.heap.size + 1, 8, none⟩)) (oi := ⟨some 75, .fieldAddr 43 (.tmp 3) 8, 0, "ref.go:78", #[⟨60, .guard⟩], some (60, false)⟩) (by kernel_rfl) ?hy64 (by assumption) ?_
  case hy64 => (cases c7; (exact Or.inl ⟨by kernel_rfl, fun w hSw => by (try dsimp only at hSw); go_simp⟩); exact Or.inr ⟨by kernel_rfl, rfl⟩)
  try simp only [Act.put, lqD, lqE, lqF]
  refine wpOps_val (S := M2 w x y) (i := 65) (v := bif c7 then undef else .slice y.od.a y.od.n y.od.c) (oi := ⟨some 76, .load 40 (.tmp 75), 40, "ref.go:78", #[⟨64, .data⟩, ⟨60, .guard⟩], some (60, false)⟩) (by kernel_rfl) ?hy65 (by assumption) ?_
  case hy65 => (cases c7; (exact Or.inl ⟨by kernel_rfl, fun w hSw => by (try dsimp only at hSw); obtain ⟨xa, xb, xc, xd, xe, xf, xg, xh, xi, xj⟩ := hSw.bx.all; obtain ⟨ya, yb, yc, yd, ye, yf, yg, yh, yi, yj⟩ := hSw.by_.all; go_simp⟩); exact Or.inr ⟨by kernel_rfl, rfl⟩)
  try simp only [Act.put, lqD, lqE, lqF]
  refine wpOps_val (S := M2 w x y) (i := 66) (v := bif c7 then undef else .int .i64 y.od.n) (oi := ⟨some 77, .call { callee := .builtin Builtin.len, args := #[.tmp 76], argTypes := #[40] }, 3, "ref.go:78", #[⟨65, .data⟩, ⟨60, .guard⟩], some (60, false)⟩) (by kernel_rfl) ?hy66 (by assumption) ?_
  case hy66 => (cases c7; (exact Or.inl ⟨by kernel_rfl, fun w hSw => by (try dsimp only at hSw); go_simp⟩); exact Or.inr ⟨by kernel_rfl, rfl⟩)
  try simp only [Act.put, lqD, lqE, lqF]
  refine wpOps_val (S := M2 w x y) (i := 67) (v := bif c7 then undef else .bool d8) (oi := ⟨some 78, .binOp .neq 3 (.tmp 74) (.tmp 77) 3, 4, "ref.go:78", #[⟨63, .data⟩, ⟨66, .data⟩, ⟨60, .guard⟩], some (60, false)⟩) (by kernel_rfl) ?hy67 (by assumption) ?_
  case hy67 => (cases c7; (exact Or.inl ⟨by kernel_rfl, fun w hSw => by (try dsimp only at hSw); go_simp⟩); exact Or.inr ⟨by kernel_rfl, rfl⟩)
  try simp only [Act.put, lqD, lqE, lqF]
  refine wpOps_val (S := M2 w x y) (i := 68) (v := .bool c8) (oi := ⟨some 79, .pick (.tmp 71) (.const (Value.bool true)) (.tmp 78), 4, "ref.go:78", #[⟨60, .data⟩, ⟨67, .data⟩], none⟩) (by kernel_rfl) ?hy68 (by assumption) ?_
  case hy68 => (subst hc8; cases c7 <;> exact Or.inl ⟨by kernel_rfl, fun w hSw => by (try dsimp only at hSw); go_simp⟩)
  try simp only [Act.put, lqD, lqE, lqF]
  refine wpOps_val (S := M2 w x y) (i := 69) (v := ?_) (oi := ⟨some 80, .move (.tmp 79), 4, "ref.go:78", #[⟨68, .data⟩, ⟨60, .chain⟩], none⟩) (by kernel_rfl) (Or.inl ⟨by kernel_rfl, ?hy69⟩) (by assumption) ?_
  case hy69 => (intro wI hSw; (try dsimp only at hSw); obtain ⟨xa, xb, xc, xd, xe, xf, xg, xh, xi, xj⟩ := hSw.bx.all; obtain ⟨ya, yb, yc, yd, ye, yf, yg, yh, yi, yj⟩ := hSw.by_.all; go_simp; try with_reducible rfl)
  try simp only [Act.put, lqD, lqE, lqF]
  refine wpOps_val (S := M2 w x y) (i := 70) (v := bif c8 then undef else .pointer (some ⟨w.heap.size, 9, none⟩)) (oi := ⟨some 81, .fieldAddr 43 (.tmp 2) 9, 0, "ref.go:78", #[⟨69, .guard⟩], some (69, false)⟩) (by kernel_rfl) ?hy70 (by assumption) ?_
  case hy70 => (cases c8; (exact Or.inl ⟨by kernel_rfl, fun w hSw => by (try dsimp only at hSw); go_simp⟩); exact Or.inr ⟨by kernel_rfl, rfl⟩)
  try simp only [Act.put, lqD, lqE, lqF]
  refine wpOps_val (S := M2 w x y) (i := 71) (v := bif c8 then undef else .slice x.pl.a x.pl.n x.pl.c) (oi := ⟨some 82, .load 38 (.tmp 81), 38, "ref.go:78", #[⟨70, .data⟩, ⟨69, .guard⟩], some (69, false)⟩) (by kernel_rfl) ?hy71 (by assumption) ?_
  case hy71 => (cases c8; (exact Or.inl ⟨by kernel_rfl, fun w hSw => by (try dsimp only at hSw); obtain ⟨xa, xb, xc, xd, xe, xf, xg, xh, xi, xj⟩ := hSw.bx.all; obtain ⟨ya, yb, yc, yd, ye, yf, yg, yh, yi, yj⟩ := hSw.by_.all; go_simp⟩); exact Or.inr ⟨by kernel_rfl, rfl⟩)
  try simp only [Act.put, lqD, lqE, lqF]
  refine wpOps_val (S := M2 w x y) (i := 72) (v := bif c8 then undef else .int .i64 x.pl.n) (oi := ⟨some 83, .call { callee := .builtin Builtin.len, args := #[.tmp 82], argTypes := #[38] }, 3, "ref.go:78", #[⟨71, .data⟩, ⟨69, .guard⟩], some (69, false)⟩) (by kernel_rfl) ?hy72 (by assumption) ?_
  case hy72 => (cases c8; (exact Or.inl ⟨by kernel_rfl, fun w hSw => by (try dsimp only at hSw); go_simp⟩); exact Or.inr ⟨by kernel_rfl, rfl⟩)
  try simp only [Act.put, lqD, lqE, lqF]
  refine wpOps_val (S := M2 w x y) (i := 73) (v := bif c8 then undef else .pointer (some ⟨w.heap.size + 1, 9, none⟩)) (oi := ⟨some 84, .fieldAddr 43 (.tmp 3) 9, 0, "ref.go:78", #[⟨69, .guard⟩], some (69, false)⟩) (by kernel_rfl) ?hy73 (by assumption) ?_
  case hy73 => (cases c8; (exact Or.inl ⟨by kernel_rfl, fun w hSw => by (try dsimp only at hSw); go_simp⟩); exact Or.inr ⟨by kernel_rfl, rfl⟩)
  try simp only [Act.put, lqD, lqE, lqF]
  refine wpOps_val (S := M2 w x y) (i := 74) (v := bif c8 then undef else .slice y.pl.a y.pl.n y.pl.c) (oi := ⟨some 85, .load 38 (.tmp 84), 38, "ref.go:78", #[⟨73, .data⟩, ⟨69, .guard⟩], some (69, false)⟩) (by kernel_rfl) ?hy74 (by assumption) ?_
  case hy74 => (cases c8; (exact Or.inl ⟨by kernel_rfl, fun w hSw => by (try dsimp only at hSw); obtain ⟨xa, xb, xc, xd, xe, xf, xg, xh, xi, xj⟩ := hSw.bx.all; obtain ⟨ya, yb, yc, yd, ye, yf, yg, yh, yi, yj⟩ := hSw.by_.all; go_simp⟩); exact Or.inr ⟨by kernel_rfl, rfl⟩)
  try simp only [Act.put, lqD, lqE, lqF]
  refine wpOps_val (S := M2 w x y) (i := 75) (v := bif c8 then undef else .int .i64 y.pl.n) (oi := ⟨some 86, .call { callee := .builtin Builtin.len, args := #[.tmp 85], argTypes := #[38] }, 3, "ref.go:78", #[⟨74, .data⟩, ⟨69, .guard⟩], some (69, false)⟩) (by kernel_rfl) ?hy75 (by assumption) ?_
  case hy75 => (cases c8; (exact Or.inl ⟨by kernel_rfl, fun w hSw => by (try dsimp only at hSw); go_simp⟩); exact Or.inr ⟨by kernel_rfl, rfl⟩)
  try simp only [Act.put, lqD, lqE, lqF]
  refine wpOps_val (S := M2 w x y) (i := 76) (v := bif c8 then undef else .bool d9) (oi := ⟨some 87, .binOp .neq 3 (.tmp 83) (.tmp 86) 3, 4, "ref.go:78", #[⟨72, .data⟩, ⟨75, .data⟩, ⟨69, .guard⟩], some (69, false)⟩) (by kernel_rfl) ?hy76 (by assumption) ?_
  case hy76 => (cases c8; (exact Or.inl ⟨by kernel_rfl, fun w hSw => by (try dsimp only at hSw); go_simp⟩); exact Or.inr ⟨by kernel_rfl, rfl⟩)
  try simp only [Act.put, lqD, lqE, lqF]
  refine wpOps_val (S := M2 w x y) (i := 77) (v := .bool c9) (oi := ⟨some 88, .pick (.tmp 80) (.const (Value.bool true)) (.tmp 87), 4, "ref.go:78", #[⟨69, .data⟩, ⟨76, .data⟩], none⟩) (by kernel_rfl) ?hy77 (by assumption) ?_
  case hy77 => (subst hc9; cases c8 <;> exact Or.inl ⟨by kernel_rfl, fun w hSw => by (try dsimp only at hSw); go_simp⟩)
  try simp only [Act.put, lqD, lqE, lqF]
  refine wpOps_end ?_
  go_wp2_with fail
  go_meet
  exact ⟨rfl, HMM.out⟩
 obtain ⟨rfl, hMM⟩ := hcut
 have HBX := hid hMM.bx
 have HBY := hid hMM.by_
 have HBW := hid hMM.bel
 clear hMM HMM
 cases hD : c9 with
 | true =>
  go_wp2
  go_ret
  refine ⟨ret_bool ?_, HBW.out⟩
  rw [Ef.out]
  symm
  cases g0 : (x.at_ == y.at_)
  ·simp
  cases g1 : (x.buf == y.buf)
  ·simp
  cases g2 : (x.inp == y.inp)
  ·simp
  cases g3 : (x.all == y.all)
  ·simp
  cases g4 : (x.ord == y.ord)
  ·simp
  cases gdm : ((x.dm.n : Int) != y.dm.n)
  case true => rw [Ddm.out gdm]; simp
  cases gfr : ((x.fr.n : Int) != y.fr.n)
  case true => rw [Dfr.out gfr]; simp
  cases grg : ((x.rg.n : Int) != y.rg.n)
  case true => rw [Drg.out grg]; simp
  cases god : ((x.od.n : Int) != y.od.n)
  case true => rw [Dod.out god]; simp
  cases gpl : ((x.pl.n : Int) != y.pl.n)
  case true => rw [Dpl.out gpl]; simp
  exfalso
  have q0 : d0 = false := by rw [← hd0, bne, g0]; rfl
  have q1 : d1 = false := by rw [← hd1, bne, g1]; rfl
  have q2 : d2 = false := by rw [← hd2, bne, g2]; rfl
  have q3 : d3 = false := by rw [← hd3, bne, g3]; rfl
  have q4 : d4 = false := by rw [← hd4, bne, g4]; rfl
  have q5 : d5 = false := by rw [← hd5, gdm]
  have q6 : d6 = false := by rw [← hd6, gfr]
  have q7 : d7 = false := by rw [← hd7, grg]
  have q8 : d8 = false := by rw [← hd8, god]
  have q9 : d9 = false := by rw [← hd9, gpl]
  rw [← hc9, ← hc8, ← hc7, ← hc6, ← hc5, ← hc4, ← hc3, ← hc2, ← hc1, q0, q1, q2, q3, q4, q5, q6, q7, q8, q9] at hD
  cases hD
 | false =>
  rw [← hc9, ← hc8, ← hc7, ← hc6, ← hc5, ← hc4, ← hc3, ← hc2, ← hc1] at hD
  simp only [Bool.or_eq_false_iff] at hD
  obtain ⟨⟨⟨⟨⟨⟨⟨⟨⟨q0, q1⟩, q2⟩, q3⟩, q4⟩, q5⟩, q6⟩, q7⟩, q8⟩, q9⟩ := hD
  rw [← hd0] at q0
  rw [← hd1] at q1
  rw [← hd2] at q2
  rw [← hd3] at q3
  rw [← hd4] at q4
  rw [← hd5] at q5
  rw [← hd6] at q6
  rw [← hd7] at q7
  rw [← hd8] at q8
  rw [← hd9] at q9
  have E0 := hid (show (x.at_ == y.at_) = true by simpa using q0)
  have E1 := hid (show (x.buf == y.buf) = true by simpa using q1)
  have E4 := hid (show (x.inp == y.inp) = true by simpa using q2)
  have E5 := hid (show (x.all == y.all) = true by simpa using q3)
  have E7 := hid (show (x.ord == y.ord) = true by simpa using q4)
  have Ndm := hid (show x.dm.n = y.dm.n by have := q5; simp at this; omega)
  have Nfr := hid (show x.fr.n = y.fr.n by have := q6; simp at this; omega)
  have Nrg := hid (show x.rg.n = y.rg.n by have := q7; simp at this; omega)
  have Nod := hid (show x.od.n = y.od.n by have := q8; simp at this; omega)
  have Npl := hid (show x.pl.n = y.pl.n by have := q9; simp at this; omega)
  clear hd0 hd1 hd2 hd3 hd4 hd5 hd6 hd7 hd8 hd9 hc1 hc2 hc3 hc4 hc5 hc6 hc7 hc8 hc9 q0 q1 q2 q3 q4 q5 q6 q7 q8 q9
  go_wp2
  go_loopw [5, 6] (fun k i wr => ∃ j : Nat, i = .int .i64 j ∧ j ≤ x.dm.n ∧ k = .bool (ac true x.dm.l y.dm.l j) ∧ Bs wr w.heap.size x ∧ Bs wr (w.heap.size + 1) y ∧ RowKit.Below w.heap.size w wr) (fun _ i _ => x.dm.n - (numOf i).toNat)
  case atStart => exact ⟨0, rfl, by omega, by rw [ac_zero], HBX.out, HBY.out, HBW.out⟩
  case round =>
   obtain ⟨j, rfl, hj, rfl, hX, hY, hB⟩ := hrel
   have HX0 := hid hX
   have HY0 := hid hY
   have HB0 := hid hB
   obtain ⟨xa, xb, xc, xd, xe, xf, xg, xh, xi, xj⟩ := hX.all
   obtain ⟨ya, yb, yc, yd, ye, yf, yg, yh, yi, yj⟩ := hY.all
   clear hX hY hB
   by_cases hgo : j < x.dm.n
   ·have e1 : decide ((j : Int) < x.dm.n) = true := decide_eq_true (by omega)
    have e2 : (j : Int) < x.dm.n := by omega
    have e3 : (j : Int) < y.dm.n := by rw [Ndm.out] at e2; exact e2
    obtain ⟨bx, ox, x0, x1, x2, x3, hax, _, hlx, c0, c1, c2, c3⟩ := (HX.out.dm.on HB0.out).el4 hgo
    obtain ⟨by', oy, y0, y1, y2, y3, hay, _, hly, d0, d1, d2, d3⟩ := (HY.out.dm.on HB0.out).el4 (j := j) (by omega)
    rw [hax] at xc
    rw [hay] at yc
    have HS := hid (ac_succ (A := true) hlx hly)
    clear hlx hly hax hay
    obtain ⟨k, hk⟩ : ∃ k, ac true x.dm.l y.dm.l j = k := ⟨_, rfl⟩
    rw [hk] at HS ⊢
    clear hk
    cases k
    ·go_wp2
     go_quiet (fail)
     go_wp2
     go_roundw
     case rel => exact ⟨j + 1, by go_num, by omega, by rw [HS.out]; rfl, HX0.out.on (below_drewN (Below.refl _ _) _), HY0.out.on (below_drewN (Below.refl _ _) _), below_drewN HB0.out _⟩
     case measure => simp [numOf]; omega
    ·go_wp2
     go_quiet (fail)
     go_wp2
     go_roundw
     case rel => exact ⟨j + 1, by go_num, by omega, by rw [HS.out]; rfl, HX0.out.on (below_drewN (Below.refl _ _) _), HY0.out.on (below_drewN (Below.refl _ _) _), below_drewN HB0.out _⟩
     case measure => simp [numOf]; omega
   ·have e1 : decide ((j : Int) < x.dm.n) = false := decide_eq_false (by omega)
    obtain ⟨A1, hA1⟩ : ∃ A, (ac true x.dm.l y.dm.l j) = A := ⟨_, rfl⟩
    have HA1 : Hid (A1 = (true && leqs x.dm.l y.dm.l)) := by rw [Hid, ← hA1, show j = x.dm.n by omega, ac_end HX.out.dm.len (by rw [HY.out.dm.len, Ndm.out])]
    rw [hA1]
    clear hA1
    go_wp2
    go_loopw [5, 7] (fun k i wr => ∃ j : Nat, i = .int .i64 j ∧ j ≤ x.fr.n ∧ k = .bool (ac A1 x.fr.l y.fr.l j) ∧ Bs wr w.heap.size x ∧ Bs wr (w.heap.size + 1) y ∧ RowKit.Below w.heap.size w wr) (fun _ i _ => x.fr.n - (numOf i).toNat)
    case atStart => exact ⟨0, rfl, by omega, by rw [ac_zero], HX0.out, HY0.out, HB0.out⟩
    case round =>
     obtain ⟨j, rfl, hj, rfl, hX, hY, hB⟩ := hrel
     have HX1 := hid hX
     have HY1 := hid hY
     have HB1 := hid hB
     obtain ⟨xa, xb, xc, xd, xe, xf, xg, xh, xi, xj⟩ := hX.all
     obtain ⟨ya, yb, yc, yd, ye, yf, yg, yh, yi, yj⟩ := hY.all
     clear hX hY hB
     by_cases hgo : j < x.fr.n
     ·have e1 : decide ((j : Int) < x.fr.n) = true := decide_eq_true (by omega)
      have e2 : (j : Int) < x.fr.n := by omega
      have e3 : (j : Int) < y.fr.n := by rw [Nfr.out] at e2; exact e2
      obtain ⟨bx, ox, x0, hax, _, hlx, c0⟩ := (HX.out.fr.on HB1.out).el1 hgo
      obtain ⟨by', oy, y0, hay, _, hly, d0⟩ := (HY.out.fr.on HB1.out).el1 (j := j) (by omega)
      rw [hax] at xd
      rw [hay] at yd
      have HS := hid (ac_succ (A := A1) hlx hly)
      rw [leq_one] at HS
      clear hlx hly hax hay
      obtain ⟨k, hk⟩ : ∃ k, ac A1 x.fr.l y.fr.l j = k := ⟨_, rfl⟩
      rw [hk] at HS ⊢
      clear hk
      cases k
      ·go_wp2
       go_quiet (fail)
       go_wp2
       go_roundw
       case rel => exact ⟨j + 1, by go_num, by omega, by rw [HS.out]; rfl, HX1.out.on (below_drewN (Below.refl _ _) _), HY1.out.on (below_drewN (Below.refl _ _) _), below_drewN HB1.out _⟩
       case measure => simp [numOf]; omega
      ·go_wp2
       go_quiet (fail)
       go_wp2
       go_roundw
       case rel => exact ⟨j + 1, by go_num, by omega, by rw [HS.out]; rfl, HX1.out.on (below_drewN (Below.refl _ _) _), HY1.out.on (below_drewN (Below.refl _ _) _), below_drewN HB1.out _⟩
       case measure => simp [numOf]; omega
     ·have e1 : decide ((j : Int) < x.fr.n) = false := decide_eq_false (by omega)
      obtain ⟨A2, hA2⟩ : ∃ A, (ac A1 x.fr.l y.fr.l j) = A := ⟨_, rfl⟩
      have HA2 : Hid (A2 = (A1 && leqs x.fr.l y.fr.l)) := by rw [Hid, ← hA2, show j = x.fr.n by omega, ac_end HX.out.fr.len (by rw [HY.out.fr.len, Nfr.out])]
      rw [hA2]
      clear hA2
      go_wp2
      go_loopw [5, 8] (fun k i wr => ∃ j : Nat, i = .int .i64 j ∧ j ≤ x.rg.n ∧ k = .bool (ac A2 x.rg.l y.rg.l j) ∧ Bs wr w.heap.size x ∧ Bs wr (w.heap.size + 1) y ∧ RowKit.Below w.heap.size w wr) (fun _ i _ => x.rg.n - (numOf i).toNat)
      case atStart => exact ⟨0, rfl, by omega, by rw [ac_zero], HX1.out, HY1.out, HB1.out⟩
      case round =>
       obtain ⟨j, rfl, hj, rfl, hX, hY, hB⟩ := hrel
       have HX2 := hid hX
       have HY2 := hid hY
       have HB2 := hid hB
       obtain ⟨xa, xb, xc, xd, xe, xf, xg, xh, xi, xj⟩ := hX.all
       obtain ⟨ya, yb, yc, yd, ye, yf, yg, yh, yi, yj⟩ := hY.all
       clear hX hY hB
       by_cases hgo : j < x.rg.n
       ·have e1 : decide ((j : Int) < x.rg.n) = true := decide_eq_true (by omega)
        have e2 : (j : Int) < x.rg.n := by omega
        have e3 : (j : Int) < y.rg.n := by rw [Nrg.out] at e2; exact e2
        obtain ⟨bx, ox, x0, x1, x2, x3, hax, _, hlx, c0, c1, c2, c3⟩ := (HX.out.rg.on HB2.out).el4 hgo
        obtain ⟨by', oy, y0, y1, y2, y3, hay, _, hly, d0, d1, d2, d3⟩ := (HY.out.rg.on HB2.out).el4 (j := j) (by omega)
        rw [hax] at xg
        rw [hay] at yg
        have HS := hid (ac_succ (A := A2) hlx hly)
        clear hlx hly hax hay
        obtain ⟨k, hk⟩ : ∃ k, ac A2 x.rg.l y.rg.l j = k := ⟨_, rfl⟩
        rw [hk] at HS ⊢
        clear hk
        cases k
        ·go_wp2
         go_quiet (fail)
         go_wp2
         go_roundw
         case rel => exact ⟨j + 1, by go_num, by omega, by rw [HS.out]; rfl, HX2.out.on (below_drewN (Below.refl _ _) _), HY2.out.on (below_drewN (Below.refl _ _) _), below_drewN HB2.out _⟩
         case measure => simp [numOf]; omega
        ·go_wp2
         go_quiet (fail)
         go_wp2
         go_roundw
         case rel => exact ⟨j + 1, by go_num, by omega, by rw [HS.out]; rfl, HX2.out.on (below_drewN (Below.refl _ _) _), HY2.out.on (below_drewN (Below.refl _ _) _), below_drewN HB2.out _⟩
         case measure => simp [numOf]; omega
       ·have e1 : decide ((j : Int) < x.rg.n) = false := decide_eq_false (by omega)
        obtain ⟨A3, hA3⟩ : ∃ A, (ac A2 x.rg.l y.rg.l j) = A := ⟨_, rfl⟩
        have HA3 : Hid (A3 = (A2 && leqs x.rg.l y.rg.l)) := by rw [Hid, ← hA3, show j = x.rg.n by omega, ac_end HX.out.rg.len (by rw [HY.out.rg.len, Nrg.out])]
        rw [hA3]
        clear hA3
        go_wp2
        go_loopw [5, 9] (fun k i wr => ∃ j : Nat, i = .int .i64 j ∧ j ≤ x.od.n ∧ k = .bool (ac A3 x.od.l y.od.l j) ∧ Bs wr w.heap.size x ∧ Bs wr (w.heap.size + 1) y ∧ RowKit.Below w.heap.size w wr) (fun _ i _ => x.od.n - (numOf i).toNat)
        case atStart => exact ⟨0, rfl, by omega, by rw [ac_zero], HX2.out, HY2.out, HB2.out⟩
        case round =>
         obtain ⟨j, rfl, hj, rfl, hX, hY, hB⟩ := hrel
         have HX3 := hid hX
         have HY3 := hid hY
         have HB3 := hid hB
         obtain ⟨xa, xb, xc, xd, xe, xf, xg, xh, xi, xj⟩ := hX.all
         obtain ⟨ya, yb, yc, yd, ye, yf, yg, yh, yi, yj⟩ := hY.all
         clear hX hY hB
         by_cases hgo : j < x.od.n
         ·have e1 : decide ((j : Int) < x.od.n) = true := decide_eq_true (by omega)
          have e2 : (j : Int) < x.od.n := by omega
          have e3 : (j : Int) < y.od.n := by rw [Nod.out] at e2; exact e2
          obtain ⟨bx, ox, x0, hax, _, hlx, c0⟩ := (HX.out.od.on HB3.out).el1 hgo
          obtain ⟨by', oy, y0, hay, _, hly, d0⟩ := (HY.out.od.on HB3.out).el1 (j := j) (by omega)
          rw [hax] at xi
          rw [hay] at yi
          have HS := hid (ac_succ (A := A3) hlx hly)
          rw [leq_one] at HS
          clear hlx hly hax hay
          obtain ⟨k, hk⟩ : ∃ k, ac A3 x.od.l y.od.l j = k := ⟨_, rfl⟩
          rw [hk] at HS ⊢
          clear hk
          cases k
          ·go_wp2
           go_quiet (fail)
           go_wp2
           go_roundw
           case rel => exact ⟨j + 1, by go_num, by omega, by rw [HS.out]; rfl, HX3.out.on (below_drewN (Below.refl _ _) _), HY3.out.on (below_drewN (Below.refl _ _) _), below_drewN HB3.out _⟩
           case measure => simp [numOf]; omega
          ·go_wp2
           go_quiet (fail)
           go_wp2
           go_roundw
           case rel => exact ⟨j + 1, by go_num, by omega, by rw [HS.out]; rfl, HX3.out.on (below_drewN (Below.refl _ _) _), HY3.out.on (below_drewN (Below.refl _ _) _), below_drewN HB3.out _⟩
           case measure => simp [numOf]; omega
         ·have e1 : decide ((j : Int) < x.od.n) = false := decide_eq_false (by omega)
          obtain ⟨A4, hA4⟩ : ∃ A, (ac A3 x.od.l y.od.l j) = A := ⟨_, rfl⟩
          have HA4 : Hid (A4 = (A3 && leqs x.od.l y.od.l)) := by rw [Hid, ← hA4, show j = x.od.n by omega, ac_end HX.out.od.len (by rw [HY.out.od.len, Nod.out])]
          rw [hA4]
          clear hA4
          go_wp2
          go_loopw [5, 10] (fun k i wr => ∃ j : Nat, i = .int .i64 j ∧ j ≤ x.pl.n ∧ k = .bool (ac A4 x.pl.l y.pl.l j) ∧ Bs wr w.heap.size x ∧ Bs wr (w.heap.size + 1) y ∧ RowKit.Below w.heap.size w wr) (fun _ i _ => x.pl.n - (numOf i).toNat)
          case atStart => exact ⟨0, rfl, by omega, by rw [ac_zero], HX3.out, HY3.out, HB3.out⟩
          case round =>
           obtain ⟨j, rfl, hj, rfl, hX, hY, hB⟩ := hrel
           have HX4 := hid hX
           have HY4 := hid hY
           have HB4 := hid hB
           obtain ⟨xa, xb, xc, xd, xe, xf, xg, xh, xi, xj⟩ := hX.all
           obtain ⟨ya, yb, yc, yd, ye, yf, yg, yh, yi, yj⟩ := hY.all
           clear hX hY hB
           by_cases hgo : j < x.pl.n
           ·have e1 : decide ((j : Int) < x.pl.n) = true := decide_eq_true (by omega)
            have e2 : (j : Int) < x.pl.n := by omega
            have e3 : (j : Int) < y.pl.n := by rw [Npl.out] at e2; exact e2
            obtain ⟨bx, ox, x0, x1, x2, hax, _, hlx, c0, c1, c2⟩ := (HX.out.pl.on HB4.out).el3 hgo
            obtain ⟨by', oy, y0, y1, y2, hay, _, hly, d0, d1, d2⟩ := (HY.out.pl.on HB4.out).el3 (j := j) (by omega)
            rw [hax] at xj
            rw [hay] at yj
            have HS := hid (ac_succ (A := A4) hlx hly)
            clear hlx hly hax hay
            obtain ⟨k, hk⟩ : ∃ k, ac A4 x.pl.l y.pl.l j = k := ⟨_, rfl⟩
            rw [hk] at HS ⊢
            clear hk
            cases k
            ·go_wp2
             go_quiet (fail)
             go_wp2
             go_roundw
             case rel => exact ⟨j + 1, by go_num, by omega, by rw [HS.out]; rfl, HX4.out.on (below_drewN (Below.refl _ _) _), HY4.out.on (below_drewN (Below.refl _ _) _), below_drewN HB4.out _⟩
             case measure => simp [numOf]; omega
            ·go_wp2
             go_quiet (fail)
             go_wp2
             go_roundw
             case rel => exact ⟨j + 1, by go_num, by omega, by rw [HS.out]; rfl, HX4.out.on (below_drewN (Below.refl _ _) _), HY4.out.on (below_drewN (Below.refl _ _) _), below_drewN HB4.out _⟩
             case measure => simp [numOf]; omega
           ·have e1 : decide ((j : Int) < x.pl.n) = false := decide_eq_false (by omega)
            obtain ⟨A5, hA5⟩ : ∃ A, (ac A4 x.pl.l y.pl.l j) = A := ⟨_, rfl⟩
            have HA5 : Hid (A5 = (A4 && leqs x.pl.l y.pl.l)) := by rw [Hid, ← hA5, show j = x.pl.n by omega, ac_end HX.out.pl.len (by rw [HY.out.pl.len, Npl.out])]
            rw [hA5]
            clear hA5
            go_wp2
            go_ret
            exact ⟨ret_bool (by rw [Ef.out, E0.out, E1.out, E4.out, E5.out, E7.out, HA5.out, HA4.out, HA3.out, HA2.out, HA1.out]; simp [Bool.and_assoc]), HB4.out⟩
end
end Go.Proofs.YtdgknofpkafppaaGreatDoor
