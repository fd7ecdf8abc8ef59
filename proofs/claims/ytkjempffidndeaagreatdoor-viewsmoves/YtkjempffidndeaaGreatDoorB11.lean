/- Lemmas that the proof leans on. -/
import Derived.Test.YtkjempffidndeaaGreatDoorB10
namespace Go.Proofs.YtkjempffidndeaaGreatDoor
open Go Go.RowKit
open List renaming getElem_toArray → lqA, getElem_cons_zero → lqB, getElem_cons_succ → lqC, setIfInBounds_toArray → lqD, set_cons_zero → lqE, set_cons_succ → lqF
set_option maxRecDepth 100000
set_option maxHeartbeats 8000000
section
structure RdX (m : Nat) (u : World) (b P : Nat) (s : Sl) : Prop where
 rd : RdM m u s.a s.n s.c s.l
 far : ∀ x, s.a = some x → b < x.block ∧ x.block ≠ P
theorem RdX.on {m : Nat} {u v : World} {b P : Nat} {s : Sl} (h : RdX m u b P s) (hb : Below u.heap.size u v) : RdX m v b P s := ⟨h.rd.on hb, h.far⟩
theorem RdX.st {m : Nat} {u : World} {b P q : Nat} {s : Sl} (h : RdX m u b P s) (hq : q = P ∨ q ≤ b) (k : Nat) (v : Value) : RdX m (u.setCell ⟨q, k, none⟩ v) b P s :=
 ⟨h.rd.kp (X := [q]) ((Kp.refl [q] u).set ⟨q, k, none⟩ (by simp) v) (fun x hx _ hm => by
  have := h.far x hx
  simp only [List.mem_cons, List.not_mem_nil, or_false] at hm
  omega), h.far⟩
theorem RdX.stz {m : Nat} {u : World} {b P q : Nat} {s : Sl} (h : RdX m u b P s) (hq : q = P ∨ q ≤ b) (r : Sx) : RdX m (stz u q r) b P s := (((((((((h.st hq 0 _).st hq 1 _).st hq 2 _).st hq 3 _).st hq 4 _).st hq 5 _).st hq 6 _).st hq 7 _).st hq 8 _).st hq 9 _
theorem RdX.none (m : Nat) (u : World) (b P : Nat) : RdX m u b P sl0 := ⟨RdM.nil _ _, fun x hx => by cases hx⟩
theorem OwM.rdx {m e : Nat} {w u : World} {v : Value} {l : List (List Int)} (h : OwM m e w u v l) {b P : Nat} (hb : b < w.heap.size) (hP : P < w.heap.size) : ∃ s : Sl, v = .slice s.a s.n s.c ∧ s.l = l ∧ RdX m u b P s := by
 obtain ⟨a, c, rfl, h1, h2⟩ := h.rd
 exact ⟨⟨a, l.length, c, l⟩, rfl, rfl, h1, fun x hx => by have := (h2 x hx).1; omega⟩
structure RdH (m : Nat) (u : World) (b : Nat) (s : Sl) : Prop where
 rd : RdM m u s.a s.n s.c s.l
 far : ∀ x, s.a = some x → b < x.block ∧ x.block < u.heap.size
theorem RdH.on {m : Nat} {u v : World} {b : Nat} {s : Sl} (h : RdH m u b s) (hb : Below u.heap.size u v) : RdH m v b s := ⟨h.rd.on hb, fun x hx => ⟨(h.far x hx).1, Nat.lt_of_lt_of_le (h.far x hx).2 hb.size⟩⟩
theorem OwM.rdh {m e : Nat} {w u : World} {v : Value} {l : List (List Int)} (h : OwM m e w u v l) {b : Nat} (hb : b < w.heap.size) : ∃ s : Sl, v = .slice s.a s.n s.c ∧ s.l = l ∧ RdH m u b s ∧ ∀ x, s.a = some x → w.heap.size ≤ x.block := by
 obtain ⟨a, c, rfl, h1, h2⟩ := h.rd
 exact ⟨⟨a, l.length, c, l⟩, rfl, rfl, ⟨h1, fun x hx => by have := h2 x hx; omega⟩, fun x hx => (h2 x hx).1⟩
structure SxX (u : World) (b P : Nat) (s : Sx) : Prop where
 dm : RdX 4 u b P s.dm
 fr : RdX 1 u b P s.fr
 rg : RdX 4 u b P s.rg
 od : RdX 1 u b P s.od
 pl : RdX 3 u b P s.pl
theorem SxX.on {u v : World} {b P : Nat} {s : Sx} (h : SxX u b P s) (hb : Below u.heap.size u v) : SxX v b P s := ⟨h.dm.on hb, h.fr.on hb, h.rg.on hb, h.od.on hb, h.pl.on hb⟩
theorem SxX.st {u : World} {b P q : Nat} {s : Sx} (h : SxX u b P s) (hq : q = P ∨ q ≤ b) (k : Nat) (v : Value) : SxX (u.setCell ⟨q, k, none⟩ v) b P s := ⟨h.dm.st hq k v, h.fr.st hq k v, h.rg.st hq k v, h.od.st hq k v, h.pl.st hq k v⟩
theorem SxX.stz {u : World} {b P q : Nat} {s : Sx} (h : SxX u b P s) (hq : q = P ∨ q ≤ b) (r : Sx) : SxX (stz u q r) b P s := ⟨h.dm.stz hq r, h.fr.stz hq r, h.rg.stz hq r, h.od.stz hq r, h.pl.stz hq r⟩
structure M0 (w : World) (x y : Sx) (u : World) : Prop where
 bx : Bs u w.heap.size x
 by_ : Bs u (w.heap.size + 1) y
 bz : Bs u (w.heap.size + 1 + 1) sx0
 bel : RowKit.Below w.heap.size w u
theorem M0.on {w : World} {x y : Sx} {u v : World} (h : M0 w x y u) (hb : Below u.heap.size u v) : M0 w x y v := ⟨h.bx.on hb, h.by_.on hb, h.bz.on hb, Below.on h.bel hb⟩
theorem M0.lt {w : World} {x y : Sx} {u : World} (h : M0 w x y u) : w.heap.size + 1 + 1 < u.heap.size := h.bz.lt
theorem m0_new (w : World) (x y : Sx) : M0 w x y (((w.alloc (.cells #[.bool x.at_, .int .i64 x.buf, .slice x.dm.a x.dm.n x.dm.c, .slice x.fr.a x.fr.n x.fr.c, .bool x.inp, .bool x.all, .slice x.rg.a x.rg.n x.rg.c, .bool x.ord, .slice x.od.a x.od.n x.od.c, .slice x.pl.a x.pl.n x.pl.c] 72)).alloc (.cells #[.bool y.at_, .int .i64 y.buf, .slice y.dm.a y.dm.n y.dm.c, .slice y.fr.a y.fr.n y.fr.c, .bool y.inp, .bool y.all, .slice y.rg.a y.rg.n y.rg.c, .bool y.ord, .slice y.od.a y.od.n y.od.c, .slice y.pl.a y.pl.n y.pl.c] 72)).alloc (.cells #[.bool sx0.at_, .int .i64 sx0.buf, .slice sx0.dm.a sx0.dm.n sx0.dm.c, .slice sx0.fr.a sx0.fr.n sx0.fr.c, .bool sx0.inp, .bool sx0.all, .slice sx0.rg.a sx0.rg.n sx0.rg.c, .bool sx0.ord, .slice sx0.od.a sx0.od.n sx0.od.c, .slice sx0.pl.a sx0.pl.n sx0.pl.c] 72)) := by
 have h1 := ((bs_new w x).on (bel_new _ (.cells #[.bool y.at_, .int .i64 y.buf, .slice y.dm.a y.dm.n y.dm.c, .slice y.fr.a y.fr.n y.fr.c, .bool y.inp, .bool y.all, .slice y.rg.a y.rg.n y.rg.c, .bool y.ord, .slice y.od.a y.od.n y.od.c, .slice y.pl.a y.pl.n y.pl.c] 72))).on (bel_new _ (.cells #[.bool sx0.at_, .int .i64 sx0.buf, .slice sx0.dm.a sx0.dm.n sx0.dm.c, .slice sx0.fr.a sx0.fr.n sx0.fr.c, .bool sx0.inp, .bool sx0.all, .slice sx0.rg.a sx0.rg.n sx0.rg.c, .bool sx0.ord, .slice sx0.od.a sx0.od.n sx0.od.c, .slice sx0.pl.a sx0.pl.n sx0.pl.c] 72))
 have h2 := (bs_new (w.alloc (.cells #[.bool x.at_, .int .i64 x.buf, .slice x.dm.a x.dm.n x.dm.c, .slice x.fr.a x.fr.n x.fr.c, .bool x.inp, .bool x.all, .slice x.rg.a x.rg.n x.rg.c, .bool x.ord, .slice x.od.a x.od.n x.od.c, .slice x.pl.a x.pl.n x.pl.c] 72)) y).on (bel_new _ (.cells #[.bool sx0.at_, .int .i64 sx0.buf, .slice sx0.dm.a sx0.dm.n sx0.dm.c, .slice sx0.fr.a sx0.fr.n sx0.fr.c, .bool sx0.inp, .bool sx0.all, .slice sx0.rg.a sx0.rg.n sx0.rg.c, .bool sx0.ord, .slice sx0.od.a sx0.od.n sx0.od.c, .slice sx0.pl.a sx0.pl.n sx0.pl.c] 72))
 have h3 := bs_new ((w.alloc (.cells #[.bool x.at_, .int .i64 x.buf, .slice x.dm.a x.dm.n x.dm.c, .slice x.fr.a x.fr.n x.fr.c, .bool x.inp, .bool x.all, .slice x.rg.a x.rg.n x.rg.c, .bool x.ord, .slice x.od.a x.od.n x.od.c, .slice x.pl.a x.pl.n x.pl.c] 72)).alloc (.cells #[.bool y.at_, .int .i64 y.buf, .slice y.dm.a y.dm.n y.dm.c, .slice y.fr.a y.fr.n y.fr.c, .bool y.inp, .bool y.all, .slice y.rg.a y.rg.n y.rg.c, .bool y.ord, .slice y.od.a y.od.n y.od.c, .slice y.pl.a y.pl.n y.pl.c] 72)) sx0
 simp only [size_new] at h2 h3
 exact ⟨h1, h2, h3, Below.on (Below.on (bel_new _ _) (bel_new _ _)) (bel_new _ _)⟩
structure Mk (w : World) (x y : Sx) (P : Nat) (s : Sx) (u : World) : Prop where
 m0 : M0 w x y u
 bs : Bs u P s
 rows : SxX u (w.heap.size + 1 + 1) P s
 hP : w.heap.size + 1 + 1 < P
theorem Mk.on {w : World} {x y s : Sx} {P : Nat} {u v : World} (h : Mk w x y P s u) (hb : Below u.heap.size u v) : Mk w x y P s v := ⟨h.m0.on hb, h.bs.on hb, h.rows.on hb, h.hP⟩
theorem Mk.drew {w : World} {x y s : Sx} {P : Nat} {u : World} (h : Mk w x y P s u) : Mk w x y P s u.drew := h.on (Below.refl _ _).drew
theorem Mk.lt {w : World} {x y s : Sx} {P : Nat} {u : World} (h : Mk w x y P s u) : P < u.heap.size := h.bs.lt
theorem Mk.st {w : World} {x y s : Sx} {P : Nat} {u : World} (h : Mk w x y P s u) (s' : Sx) (k : Nat) (v : Value) (hs : (#[.bool s.at_, .int .i64 s.buf, .slice s.dm.a s.dm.n s.dm.c, .slice s.fr.a s.fr.n s.fr.c, .bool s.inp, .bool s.all, .slice s.rg.a s.rg.n s.rg.c, .bool s.ord, .slice s.od.a s.od.n s.od.c, .slice s.pl.a s.pl.n s.pl.c] : Array Value).setIfInBounds k v = #[.bool s'.at_, .int .i64 s'.buf, .slice s'.dm.a s'.dm.n s'.dm.c, .slice s'.fr.a s'.fr.n s'.fr.c, .bool s'.inp, .bool s'.all, .slice s'.rg.a s'.rg.n s'.rg.c, .bool s'.ord, .slice s'.od.a s'.od.n s'.od.c, .slice s'.pl.a s'.pl.n s'.pl.c]) (hr : SxX u (w.heap.size + 1 + 1) P s') : Mk w x y P s' (u.setCell ⟨P, k, none⟩ v) := by
 have hP := h.hP
 exact ⟨⟨h.m0.bx.other (by omega) k v, h.m0.by_.other (by omega) k v, h.m0.bz.other (by omega) k v, h.m0.bel.setCell (p := ⟨P, k, none⟩) (by show w.heap.size ≤ P; omega) v⟩, ⟨by have := h.bs.bk.set k v; rw [hs] at this; exact this⟩, hr.st (.inl rfl) k v, hP⟩
theorem Mk.kp {w : World} {x y s : Sx} {P : Nat} {u0 u v : World} {X : List Nat} (h : Mk w x y P s u) (h0 : Mk w x y P s u0) (hb : Kp X u v) (hX : ∀ k ∈ X, u0.heap.size ≤ k) : Mk w x y P s v := by
 have far : ∀ {m : Nat} {t : Sl}, RdX m u (w.heap.size + 1 + 1) P t → RdX m u0 (w.heap.size + 1 + 1) P t → RdX m v (w.heap.size + 1 + 1) P t := fun {m t} h1 h2 => ⟨h1.rd.kp hb (fun z hz hn hm => by
  obtain ⟨b, off, e, hlt, _⟩ := h2.rd.pl hn
  rw [hz] at e
  cases e
  have := hX _ hm
  simp only at this
  omega), h1.far⟩
 have hn : ∀ p, p < u0.heap.size → p ∉ X := fun p hp hm => by have := hX p hm; omega
 have hl := h0.lt
 have hl2 := h0.m0.lt
 exact ⟨⟨⟨h.m0.bx.bk.kp hb (hn _ (by omega))⟩, ⟨h.m0.by_.bk.kp hb (hn _ (by omega))⟩, ⟨h.m0.bz.bk.kp hb (hn _ (by omega))⟩, Below.trans h.m0.bel (hb.below h.m0.bel.size (fun k hk => by have := hX k hk; omega))⟩, ⟨h.bs.bk.kp hb (hn _ hl)⟩, ⟨far h.rows.dm h0.rows.dm, far h.rows.fr h0.rows.fr, far h.rows.rg h0.rows.rg, far h.rows.od h0.rows.od, far h.rows.pl h0.rows.pl⟩, h.hP⟩
theorem bs_other_stz {u : World} {p q : Nat} {x : Sx} (h : Bs u p x) (hn : p ≠ q) (r : Sx) : Bs (stz u q r) p x := (((((((((h.other hn 0 _).other hn 1 _).other hn 2 _).other hn 3 _).other hn 4 _).other hn 5 _).other hn 6 _).other hn 7 _).other hn 8 _).other hn 9 _
def opsRM1 : Array Oper := #[
 ⟨some 6, .fieldAddr 72 (.tmp 2) 0, 0, "ref.go:52", #[], none⟩,
 ⟨some 7, .load 4 (.tmp 6), 4, "ref.go:52", #[⟨0, .data⟩], none⟩,
 ⟨some 8, .move (.tmp 7), 4, "ref.go:52", #[⟨1, .data⟩], none⟩,
 ⟨some 9, .fieldAddr 72 (.tmp 3) 0, 0, "ref.go:52", #[⟨2, .guard⟩], some (2, false)⟩,
 ⟨some 10, .load 4 (.tmp 9), 4, "ref.go:52", #[⟨3, .data⟩, ⟨2, .guard⟩], some (2, false)⟩,
 ⟨some 11, .pick (.tmp 8) (.const (Value.bool true)) (.tmp 10), 4, "ref.go:52", #[⟨2, .data⟩, ⟨4, .data⟩], none⟩,
 ⟨some 12, .fieldAddr 72 (.tmp 2) 1, 0, "ref.go:52", #[], none⟩,
 ⟨some 13, .load 3 (.tmp 12), 3, "ref.go:52", #[⟨6, .data⟩], none⟩,
 ⟨some 14, .fieldAddr 72 (.tmp 2) 4, 0, "ref.go:52", #[], none⟩,
 ⟨some 15, .load 4 (.tmp 14), 4, "ref.go:52", #[⟨8, .data⟩], none⟩,
 ⟨some 16, .move (.tmp 15), 4, "ref.go:52", #[⟨9, .data⟩, ⟨2, .chain⟩], none⟩,
 ⟨some 17, .fieldAddr 72 (.tmp 3) 4, 0, "ref.go:52", #[⟨10, .guard⟩], some (10, false)⟩,
 ⟨some 18, .load 4 (.tmp 17), 4, "ref.go:52", #[⟨11, .data⟩, ⟨10, .guard⟩], some (10, false)⟩,
 ⟨some 19, .pick (.tmp 16) (.const (Value.bool true)) (.tmp 18), 4, "ref.go:52", #[⟨10, .data⟩, ⟨12, .data⟩], none⟩,
 ⟨some 20, .fieldAddr 72 (.tmp 2) 5, 0, "ref.go:52", #[], none⟩,
 ⟨some 21, .load 4 (.tmp 20), 4, "ref.go:52", #[⟨14, .data⟩], none⟩,
 ⟨some 22, .fieldAddr 72 (.tmp 2) 6, 0, "ref.go:52", #[], none⟩,
 ⟨some 23, .load 55 (.tmp 22), 55, "ref.go:52", #[⟨16, .data⟩], none⟩,
 ⟨some 24, .call { callee := .value (.func 123), args := #[.tmp 23], argTypes := #[55] }, 55, "ref.go:52", #[⟨17, .data⟩, ⟨10, .chain⟩], none⟩,
 ⟨some 25, .fieldAddr 72 (.tmp 2) 7, 0, "ref.go:52", #[], none⟩,
 ⟨some 26, .load 4 (.tmp 25), 4, "ref.go:52", #[⟨19, .data⟩], none⟩,
 ⟨some 27, .move (.tmp 26), 4, "ref.go:52", #[⟨20, .data⟩, ⟨18, .chain⟩], none⟩,
 ⟨some 28, .fieldAddr 72 (.tmp 3) 7, 0, "ref.go:52", #[⟨21, .guard⟩], some (21, false)⟩,
 ⟨some 29, .load 4 (.tmp 28), 4, "ref.go:52", #[⟨22, .data⟩, ⟨21, .guard⟩], some (21, false)⟩,
 ⟨some 30, .pick (.tmp 27) (.const (Value.bool true)) (.tmp 29), 4, "ref.go:52", #[⟨21, .data⟩, ⟨23, .data⟩], none⟩,
 ⟨some 31, .fieldAddr 72 (.tmp 2) 8, 0, "ref.go:52", #[], none⟩,
 ⟨some 32, .load 63 (.tmp 31), 63, "ref.go:52", #[⟨25, .data⟩], none⟩,
 ⟨some 33, .call { callee := .value (.func 124), args := #[.tmp 32], argTypes := #[63] }, 63, "ref.go:52", #[⟨26, .data⟩, ⟨21, .chain⟩], none⟩,
 ⟨some 34, .build 72 #[(0, .tmp 11), (1, .tmp 13), (4, .tmp 19), (5, .tmp 21), (6, .tmp 24), (7, .tmp 30), (8, .tmp 33)], 72, "ref.go:52", #[⟨5, .data⟩, ⟨7, .data⟩, ⟨13, .data⟩, ⟨15, .data⟩, ⟨18, .data⟩, ⟨24, .data⟩, ⟨27, .data⟩], none⟩,
 ⟨some 5, .alloc 72, 0, "ref.go:52", #[], none⟩,
 ⟨none, .store 72 (.tmp 5) (.tmp 34), 0, "ref.go:52", #[⟨29, .data⟩, ⟨28, .data⟩, ⟨27, .chain⟩, ⟨0, .phase⟩, ⟨1, .phase⟩, ⟨2, .phase⟩, ⟨3, .phase⟩, ⟨4, .phase⟩, ⟨5, .phase⟩, ⟨6, .phase⟩, ⟨7, .phase⟩, ⟨8, .phase⟩, ⟨9, .phase⟩, ⟨10, .phase⟩, ⟨11, .phase⟩, ⟨12, .phase⟩, ⟨13, .phase⟩, ⟨14, .phase⟩, ⟨15, .phase⟩, ⟨16, .phase⟩, ⟨17, .phase⟩, ⟨18, .phase⟩, ⟨19, .phase⟩, ⟨20, .phase⟩, ⟨21, .phase⟩, ⟨22, .phase⟩, ⟨23, .phase⟩, ⟨24, .phase⟩, ⟨25, .phase⟩, ⟨26, .phase⟩, ⟨27, .phase⟩, ⟨28, .phase⟩, ⟨29, .phase⟩], none⟩]
theorem rmerge_any (x y : Sx) (w : World) (okx : x.Ok w) (oky : y.Ok w) (lx : x.Len 1000) (ly : y.Len 1000) : Calls Tryz.prog 101 #[.agg #[.bool x.at_, .int .i64 x.buf, .slice x.dm.a x.dm.n x.dm.c, .slice x.fr.a x.fr.n x.fr.c, .bool x.inp, .bool x.all, .slice x.rg.a x.rg.n x.rg.c, .bool x.ord, .slice x.od.a x.od.n x.od.c, .slice x.pl.a x.pl.n x.pl.c], .agg #[.bool y.at_, .int .i64 y.buf, .slice y.dm.a y.dm.n y.dm.c, .slice y.fr.a y.fr.n y.fr.c, .bool y.inp, .bool y.all, .slice y.rg.a y.rg.n y.rg.c, .bool y.ord, .slice y.od.a y.od.n y.od.c, .slice y.pl.a y.pl.n y.pl.c]] w (Rst w (mrg x.q y.q)) := by
 have i4 := infoMP infoM4
 have i1 := infoMP infoM1
 have HX := hid okx
 have HY := hid oky
 have HLX := hid lx
 have HLY := hid ly
 have HM0 := hid (m0_new w x y)
 have KX : Hid (x.dm.n ≤ 1000000 ∧ x.fr.n ≤ 1000000 ∧ x.rg.n ≤ 1000000 ∧ x.od.n ≤ 1000000) := by rw [Hid]; unfold Sx.Len at lx; omega
 have KY : Hid (y.dm.n ≤ 1000000 ∧ y.fr.n ≤ 1000000 ∧ y.rg.n ≤ 1000000 ∧ y.od.n ≤ 1000000) := by rw [Hid]; unfold Sx.Len at ly; omega
 have K9 : Hid (x.pl.n + y.pl.n ≤ 900000) := by rw [Hid]; unfold Sx.Len at lx ly; omega
 have KA : Hid (x.dm.n + y.dm.n ≤ 1000000 ∧ x.fr.n + y.fr.n ≤ 1000000) := by rw [Hid]; unfold Sx.Len at lx ly; omega
 clear okx oky lx ly
 go_enter Tryz.func101, Tryz.ntmps101
 go_upto_region 1 with fail
 go_cut [0, 1, 5] (fun _ _ v wc => ∃ (P : Nat) (t18 t27 : Sl), v = .pointer (some ⟨P, 0, none⟩) ∧ Mk w x y P { sx0 with at_ := x.at_ || y.at_, buf := x.buf, inp := x.inp || y.inp, all := x.all, rg := t18, ord := x.ord || y.ord, od := t27 } wc ∧ t18.l = x.rg.l ∧ t27.l = x.od.l)
 case first =>
  refine swap_ops (ops' := opsRM1) (by kernel_rfl) ?_
  refine wp_region_gate_drew (g := 30) (S := M0 w x y) (by kernel_rfl) ?hh (fun hHeld => ?_)
  case hh => exact (HM0.out.on (Below.refl _ _).drew)
  generalize World.drew _ = W0 at hHeld ⊢
  try dsimp only at hHeld
  refine wpAnyG_take (i := 0) (v := ?_) (oi := ⟨some 6, .fieldAddr 72 (.tmp 2) 0, 0, "ref.go:52", #[], none⟩) (by kernel_rfl) (by kernel_rfl) (by kernel_rfl) (by kernel_rfl) (by kernel_rfl) (fun _ _ _ h => h) (Or.inl ⟨by kernel_rfl, ?hy0⟩) (by assumption) ?_
  case hy0 => (intro wI hSw; (try dsimp only at hSw); obtain ⟨xa, xb, xc, xd, xe, xf, xg, xh, xi, xj⟩ := hSw.bx.all; obtain ⟨ya, yb, yc, yd, ye, yf, yg, yh, yi, yj⟩ := hSw.by_.all; go_simp; try with_reducible rfl)
  try simp only [Act.put, lqD, lqE, lqF]
  refine wpAnyG_take (i := 1) (v := ?_) (oi := ⟨some 7, .load 4 (.tmp 6), 4, "ref.go:52", #[⟨0, .data⟩], none⟩) (by kernel_rfl) (by kernel_rfl) (by kernel_rfl) (by kernel_rfl) (by kernel_rfl) (fun _ _ _ h => h) (Or.inl ⟨by kernel_rfl, ?hy1⟩) (by assumption) ?_
  case hy1 => (intro wI hSw; (try dsimp only at hSw); obtain ⟨xa, xb, xc, xd, xe, xf, xg, xh, xi, xj⟩ := hSw.bx.all; obtain ⟨ya, yb, yc, yd, ye, yf, yg, yh, yi, yj⟩ := hSw.by_.all; go_simp; try with_reducible rfl)
  try simp only [Act.put, lqD, lqE, lqF]
  refine wpAnyG_take (i := 2) (v := ?_) (oi := ⟨some 8, .move (.tmp 7), 4, "ref.go:52", #[⟨1, .data⟩], none⟩) (by kernel_rfl) (by kernel_rfl) (by kernel_rfl) (by kernel_rfl) (by kernel_rfl) (fun _ _ _ h => h) (Or.inl ⟨by kernel_rfl, ?hy2⟩) (by assumption) ?_
  case hy2 => (intro wI hSw; (try dsimp only at hSw); obtain ⟨xa, xb, xc, xd, xe, xf, xg, xh, xi, xj⟩ := hSw.bx.all; obtain ⟨ya, yb, yc, yd, ye, yf, yg, yh, yi, yj⟩ := hSw.by_.all; go_simp; try with_reducible rfl)
  try simp only [Act.put, lqD, lqE, lqF]
  refine wpAnyG_take (i := 3) (v := bif x.at_ then undef else .pointer (some ⟨w.heap.size + 1, 0, none⟩)) (oi := ⟨some 9, .fieldAddr 72 (.tmp 3) 0, 0, "ref.go:52", #[⟨2, .guard⟩], some (2, false)⟩) (by kernel_rfl) (by kernel_rfl) (by kernel_rfl) (by kernel_rfl) (by kernel_rfl) (fun _ _ _ h => h) ?hy3 (by assumption) ?_
  case hy3 => (cases x.at_; (exact Or.inl ⟨by kernel_rfl, fun w hSw => by (try dsimp only at hSw); go_simp⟩); exact Or.inr ⟨by kernel_rfl, rfl⟩)
  try simp only [Act.put, lqD, lqE, lqF]
  refine wpAnyG_take (i := 4) (v := bif x.at_ then undef else .bool y.at_) (oi := ⟨some 10, .load 4 (.tmp 9), 4, "ref.go:52", #[⟨3, .data⟩, ⟨2, .guard⟩], some (2, false)⟩) (by kernel_rfl) (by kernel_rfl) (by kernel_rfl) (by kernel_rfl) (by kernel_rfl) (fun _ _ _ h => h) ?hy4 (by assumption) ?_
  case hy4 => (cases x.at_; (exact Or.inl ⟨by kernel_rfl, fun w hSw => by (try dsimp only at hSw); obtain ⟨xa, xb, xc, xd, xe, xf, xg, xh, xi, xj⟩ := hSw.bx.all; obtain ⟨ya, yb, yc, yd, ye, yf, yg, yh, yi, yj⟩ := hSw.by_.all; go_simp⟩); exact Or.inr ⟨by kernel_rfl, rfl⟩)
  try simp only [Act.put, lqD, lqE, lqF]
  refine wpAnyG_take (i := 5) (v := .bool (x.at_ || y.at_)) (oi := ⟨some 11, .pick (.tmp 8) (.const (Value.bool true)) (.tmp 10), 4, "ref.go:52", #[⟨2, .data⟩, ⟨4, .data⟩], none⟩) (by kernel_rfl) (by kernel_rfl) (by kernel_rfl) (by kernel_rfl) (by kernel_rfl) (fun _ _ _ h => h) ?hy5 (by assumption) ?_
  case hy5 => (cases x.at_ <;> (simp only [cond_false, cond_true]; exact Or.inl ⟨by kernel_rfl, fun w hSw => by (try dsimp only at hSw); go_simp⟩))
  try simp only [Act.put, lqD, lqE, lqF]
  refine wpAnyG_take (i := 6) (v := ?_) (oi := ⟨some 12, .fieldAddr 72 (.tmp 2) 1, 0, "ref.go:52", #[], none⟩) (by kernel_rfl) (by kernel_rfl) (by kernel_rfl) (by kernel_rfl) (by kernel_rfl) (fun _ _ _ h => h) (Or.inl ⟨by kernel_rfl, ?hy6⟩) (by assumption) ?_
  case hy6 => (intro wI hSw; (try dsimp only at hSw); obtain ⟨xa, xb, xc, xd, xe, xf, xg, xh, xi, xj⟩ := hSw.bx.all; obtain ⟨ya, yb, yc, yd, ye, yf, yg, yh, yi, yj⟩ := hSw.by_.all; go_simp; try with_reducible rfl)
  try simp only [Act.put, lqD, lqE, lqF]
  refine wpAnyG_take (i := 7) (v := ?_) (oi := ⟨some 13, .load 3 (.tmp 12), 3, "ref.go:52", #[⟨6, .data⟩], none⟩) (by kernel_rfl) (by kernel_rfl) (by kernel_rfl) (by kernel_rfl) (by kernel_rfl) (fun _ _ _ h => h) (Or.inl ⟨by kernel_rfl, ?hy7⟩) (by assumption) ?_
  case hy7 => (intro wI hSw; (try dsimp only at hSw); obtain ⟨xa, xb, xc, xd, xe, xf, xg, xh, xi, xj⟩ := hSw.bx.all; obtain ⟨ya, yb, yc, yd, ye, yf, yg, yh, yi, yj⟩ := hSw.by_.all; go_simp; try with_reducible rfl)
  try simp only [Act.put, lqD, lqE, lqF]
  refine wpAnyG_take (i := 8) (v := ?_) (oi := ⟨some 14, .fieldAddr 72 (.tmp 2) 4, 0, "ref.go:52", #[], none⟩) (by kernel_rfl) (by kernel_rfl) (by kernel_rfl) (by kernel_rfl) (by kernel_rfl) (fun _ _ _ h => h) (Or.inl ⟨by kernel_rfl, ?hy8⟩) (by assumption) ?_
  case hy8 => (intro wI hSw; (try dsimp only at hSw); obtain ⟨xa, xb, xc, xd, xe, xf, xg, xh, xi, xj⟩ := hSw.bx.all; obtain ⟨ya, yb, yc, yd, ye, yf, yg, yh, yi, yj⟩ := hSw.by_.all; go_simp; try with_reducible rfl)
  try simp only [Act.put, lqD, lqE, lqF]
  refine wpAnyG_take (i := 9) (v := ?_) (oi := ⟨some 15, .load 4 (.tmp 14), 4, "ref.go:52", #[⟨8, .data⟩], none⟩) (by kernel_rfl) (by kernel_rfl) (by kernel_rfl) (by kernel_rfl) (by kernel_rfl) (fun _ _ _ h => h) (Or.inl ⟨by kernel_rfl, ?hy9⟩) (by assumption) ?_
  case hy9 => (intro wI hSw; (try dsimp only at hSw); obtain ⟨xa, xb, xc, xd, xe, xf, xg, xh, xi, xj⟩ := hSw.bx.all; obtain ⟨ya, yb, yc, yd, ye, yf, yg, yh, yi, yj⟩ := hSw.by_.all; go_simp; try with_reducible rfl)
  try simp only [Act.put, lqD, lqE, lqF]
  refine wpAnyG_take (i := 10) (v := ?_) (oi := ⟨some 16, .move (.tmp 15), 4, "ref.go:52", #[⟨9, .data⟩, ⟨2, .chain⟩], none⟩) (by kernel_rfl) (by kernel_rfl) (by kernel_rfl) (by kernel_rfl) (by kernel_rfl) (fun _ _ _ h => h) (Or.inl ⟨by kernel_rfl, ?hy10⟩) (by assumption) ?_
  case hy10 => (intro wI hSw; (try dsimp only at hSw); obtain ⟨xa, xb, xc, xd, xe, xf, xg, xh, xi, xj⟩ := hSw.bx.all; obtain ⟨ya, yb, yc, yd, ye, yf, yg, yh, yi, yj⟩ := hSw.by_.all; go_simp; try with_reducible rfl)
  try simp only [Act.put, lqD, lqE, lqF]
  refine wpAnyG_take (i := 11) (v := bif x.inp then undef else .pointer (some ⟨w.heap.size + 1, 4, none⟩)) (oi := ⟨some 17, .fieldAddr 72 (.tmp 3) 4, 0, "ref.go:52", #[⟨10, .guard⟩], some (10, false)⟩) (by kernel_rfl) (by kernel_rfl) (by kernel_rfl) (by kernel_rfl) (by kernel_rfl) (fun _ _ _ h => h) ?hy11 (by assumption) ?_
  case hy11 => (cases x.inp; (exact Or.inl ⟨by kernel_rfl, fun w hSw => by (try dsimp only at hSw); go_simp⟩); exact Or.inr ⟨by kernel_rfl, rfl⟩)
  try simp only [Act.put, lqD, lqE, lqF]
  refine wpAnyG_take (i := 12) (v := bif x.inp then undef else .bool y.inp) (oi := ⟨some 18, .load 4 (.tmp 17), 4, "ref.go:52", #[⟨11, .data⟩, ⟨10, .guard⟩], some (10, false)⟩) (by kernel_rfl) (by kernel_rfl) (by kernel_rfl) (by kernel_rfl) (by kernel_rfl) (fun _ _ _ h => h) ?hy12 (by assumption) ?_
  case hy12 => (cases x.inp; (exact Or.inl ⟨by kernel_rfl, fun w hSw => by (try dsimp only at hSw); obtain ⟨xa, xb, xc, xd, xe, xf, xg, xh, xi, xj⟩ := hSw.bx.all; obtain ⟨ya, yb, yc, yd, ye, yf, yg, yh, yi, yj⟩ := hSw.by_.all; go_simp⟩); exact Or.inr ⟨by kernel_rfl, rfl⟩)
  try simp only [Act.put, lqD, lqE, lqF]
  refine wpAnyG_take (i := 13) (v := .bool (x.inp || y.inp)) (oi := ⟨some 19, .pick (.tmp 16) (.const (Value.bool true)) (.tmp 18), 4, "ref.go:52", #[⟨10, .data⟩, ⟨12, .data⟩], none⟩) (by kernel_rfl) (by kernel_rfl) (by kernel_rfl) (by kernel_rfl) (by kernel_rfl) (fun _ _ _ h => h) ?hy13 (by assumption) ?_
  case hy13 => (cases x.inp <;> (simp only [cond_false, cond_true]; exact Or.inl ⟨by kernel_rfl, fun w hSw => by (try dsimp only at hSw); go_simp⟩))
  try simp only [Act.put, lqD, lqE, lqF]
  refine wpAnyG_take (i := 14) (v := ?_) (oi := ⟨some 20, .fieldAddr 72 (.tmp 2) 5, 0, "ref.go:52", #[], none⟩) (by kernel_rfl) (by kernel_rfl) (by kernel_rfl) (by kernel_rfl) (by kernel_rfl) (fun _ _ _ h => h) (Or.inl ⟨by kernel_rfl, ?hy14⟩) (by assumption) ?_
  case hy14 => (intro wI hSw; (try dsimp only at hSw); obtain ⟨xa, xb, xc, xd, xe, xf, xg, xh, xi, xj⟩ := hSw.bx.all; obtain ⟨ya, yb, yc, yd, ye, yf, yg, yh, yi, yj⟩ := hSw.by_.all; go_simp; try with_reducible rfl)
  try simp only [Act.put, lqD, lqE, lqF]
  refine wpAnyG_take (i := 15) (v := ?_) (oi := ⟨some 21, .load 4 (.tmp 20), 4, "ref.go:52", #[⟨14, .data⟩], none⟩) (by kernel_rfl) (by kernel_rfl) (by kernel_rfl) (by kernel_rfl) (by kernel_rfl) (fun _ _ _ h => h) (Or.inl ⟨by kernel_rfl, ?hy15⟩) (by assumption) ?_
  case hy15 => (intro wI hSw; (try dsimp only at hSw); obtain ⟨xa, xb, xc, xd, xe, xf, xg, xh, xi, xj⟩ := hSw.bx.all; obtain ⟨ya, yb, yc, yd, ye, yf, yg, yh, yi, yj⟩ := hSw.by_.all; go_simp; try with_reducible rfl)
  try simp only [Act.put, lqD, lqE, lqF]
  refine wpAnyG_take (i := 16) (v := ?_) (oi := ⟨some 22, .fieldAddr 72 (.tmp 2) 6, 0, "ref.go:52", #[], none⟩) (by kernel_rfl) (by kernel_rfl) (by kernel_rfl) (by kernel_rfl) (by kernel_rfl) (fun _ _ _ h => h) (Or.inl ⟨by kernel_rfl, ?hy16⟩) (by assumption) ?_
  case hy16 => (intro wI hSw; (try dsimp only at hSw); obtain ⟨xa, xb, xc, xd, xe, xf, xg, xh, xi, xj⟩ := hSw.bx.all; obtain ⟨ya, yb, yc, yd, ye, yf, yg, yh, yi, yj⟩ := hSw.by_.all; go_simp; try with_reducible rfl)
  try simp only [Act.put, lqD, lqE, lqF]
  refine wpAnyG_take (i := 17) (v := ?_) (oi := ⟨some 23, .load 55 (.tmp 22), 55, "ref.go:52", #[⟨16, .data⟩], none⟩) (by kernel_rfl) (by kernel_rfl) (by kernel_rfl) (by kernel_rfl) (by kernel_rfl) (fun _ _ _ h => h) (Or.inl ⟨by kernel_rfl, ?hy17⟩) (by assumption) ?_
  case hy17 => (intro wI hSw; (try dsimp only at hSw); obtain ⟨xa, xb, xc, xd, xe, xf, xg, xh, xi, xj⟩ := hSw.bx.all; obtain ⟨ya, yb, yc, yd, ye, yf, yg, yh, yi, yj⟩ := hSw.by_.all; go_simp; try with_reducible rfl)
  try simp only [Act.put, lqD, lqE, lqF]
  refine wpAnyG_take (i := 19) (v := ?_) (oi := ⟨some 25, .fieldAddr 72 (.tmp 2) 7, 0, "ref.go:52", #[], none⟩) (by kernel_rfl) (by kernel_rfl) (by kernel_rfl) (by kernel_rfl) (by kernel_rfl) (fun _ _ _ h => h) (Or.inl ⟨by kernel_rfl, ?hy19⟩) (by assumption) ?_
  case hy19 => (intro wI hSw; (try dsimp only at hSw); obtain ⟨xa, xb, xc, xd, xe, xf, xg, xh, xi, xj⟩ := hSw.bx.all; obtain ⟨ya, yb, yc, yd, ye, yf, yg, yh, yi, yj⟩ := hSw.by_.all; go_simp; try with_reducible rfl)
  try simp only [Act.put, lqD, lqE, lqF]
  refine wpAnyG_take (i := 20) (v := ?_) (oi := ⟨some 26, .load 4 (.tmp 25), 4, "ref.go:52", #[⟨19, .data⟩], none⟩) (by kernel_rfl) (by kernel_rfl) (by kernel_rfl) (by kernel_rfl) (by kernel_rfl) (fun _ _ _ h => h) (Or.inl ⟨by kernel_rfl, ?hy20⟩) (by assumption) ?_
  case hy20 => (intro wI hSw; (try dsimp only at hSw); obtain ⟨xa, xb, xc, xd, xe, xf, xg, xh, xi, xj⟩ := hSw.bx.all; obtain ⟨ya, yb, yc, yd, ye, yf, yg, yh, yi, yj⟩ := hSw.by_.all; go_simp; try with_reducible rfl)
  try simp only [Act.put, lqD, lqE, lqF]
  refine wpAnyG_take (i := 25) (v := ?_) (oi := ⟨some 31, .fieldAddr 72 (.tmp 2) 8, 0, "ref.go:52", #[], none⟩) (by kernel_rfl) (by kernel_rfl) (by kernel_rfl) (by kernel_rfl) (by kernel_rfl) (fun _ _ _ h => h) (Or.inl ⟨by kernel_rfl, ?hy25⟩) (by assumption) ?_
  case hy25 => (intro wI hSw; (try dsimp only at hSw); obtain ⟨xa, xb, xc, xd, xe, xf, xg, xh, xi, xj⟩ := hSw.bx.all; obtain ⟨ya, yb, yc, yd, ye, yf, yg, yh, yi, yj⟩ := hSw.by_.all; go_simp; try with_reducible rfl)
  try simp only [Act.put, lqD, lqE, lqF]
  refine wpAnyG_take (i := 26) (v := ?_) (oi := ⟨some 32, .load 63 (.tmp 31), 63, "ref.go:52", #[⟨25, .data⟩], none⟩) (by kernel_rfl) (by kernel_rfl) (by kernel_rfl) (by kernel_rfl) (by kernel_rfl) (fun _ _ _ h => h) (Or.inl ⟨by kernel_rfl, ?hy26⟩) (by assumption) ?_
  case hy26 => (intro wI hSw; (try dsimp only at hSw); obtain ⟨xa, xb, xc, xd, xe, xf, xg, xh, xi, xj⟩ := hSw.bx.all; obtain ⟨ya, yb, yc, yd, ye, yf, yg, yh, yi, yj⟩ := hSw.by_.all; go_simp; try with_reducible rfl)
  try simp only [Act.put, lqD, lqE, lqF]
  refine wpAnyG_ready (rs := [18, 29]) (by kernel_rfl) (by simp) ?_
  refine AllReadyG.cons (o := ⟨some 24, .call { callee := .value (.func 123), args := #[.tmp 23], argTypes := #[55] }, 55, "ref.go:52", #[⟨17, .data⟩, ⟨10, .chain⟩], none⟩) (by kernel_rfl) (fun K hK => ?_) ?_
  ·rw [if_pos (by kernel_rfl)]
   have hlt := hHeld.lt
   go_simp
   go_wp2_with fail
   refine (rrects_any _ _ _ _ _ (HX.out.rg.on hHeld.bel) KX.out.2.2.1).mono ?_
   rintro e W18 ⟨v18, rfl, hO⟩
   have hb := hO.bel
   obtain ⟨t18, rfl, hl, hH, hlo⟩ := hO.rdh hlt
   have R18 := hid hH
   have E18 := hid hl
   try have N18 : Hid (∀ z, t18.a = some z → z.block ≠ P29) := (fun z hz => by have h1 := hlo z hz; have h2 := HP.out.lt; omega)
   try replace HP := hid (HP.out.on hb)
   have hM := hHeld.on hb
   refine hK.out _ _ hM (fun _ => ?_)
   clear hK K hHeld hlt hb hO hH hl hlo
   have hHeld := hM
   clear hM
   try simp only [Act.put, lqD, lqE, lqF]
   refine wpAnyG_take (i := 21) (v := ?_) (oi := ⟨some 27, .move (.tmp 26), 4, "ref.go:52", #[⟨20, .data⟩, ⟨18, .chain⟩], none⟩) (by kernel_rfl) (by kernel_rfl) (by kernel_rfl) (by kernel_rfl) (by kernel_rfl) (fun _ _ _ h => h) (Or.inl ⟨by kernel_rfl, ?hy21⟩) (by assumption) ?_
   case hy21 => (intro wI hSw; (try dsimp only at hSw); obtain ⟨xa, xb, xc, xd, xe, xf, xg, xh, xi, xj⟩ := hSw.bx.all; obtain ⟨ya, yb, yc, yd, ye, yf, yg, yh, yi, yj⟩ := hSw.by_.all; go_simp; try with_reducible rfl)
   try simp only [Act.put, lqD, lqE, lqF]
   refine wpAnyG_take (i := 22) (v := bif x.ord then undef else .pointer (some ⟨w.heap.size + 1, 7, none⟩)) (oi := ⟨some 28, .fieldAddr 72 (.tmp 3) 7, 0, "ref.go:52", #[⟨21, .guard⟩], some (21, false)⟩) (by kernel_rfl) (by kernel_rfl) (by kernel_rfl) (by kernel_rfl) (by kernel_rfl) (fun _ _ _ h => h) ?hy22 (by assumption) ?_
   case hy22 => (cases x.ord; (exact Or.inl ⟨by kernel_rfl, fun w hSw => by (try dsimp only at hSw); go_simp⟩); exact Or.inr ⟨by kernel_rfl, rfl⟩)
   try simp only [Act.put, lqD, lqE, lqF]
   refine wpAnyG_take (i := 23) (v := bif x.ord then undef else .bool y.ord) (oi := ⟨some 29, .load 4 (.tmp 28), 4, "ref.go:52", #[⟨22, .data⟩, ⟨21, .guard⟩], some (21, false)⟩) (by kernel_rfl) (by kernel_rfl) (by kernel_rfl) (by kernel_rfl) (by kernel_rfl) (fun _ _ _ h => h) ?hy23 (by assumption) ?_
   case hy23 => (cases x.ord; (exact Or.inl ⟨by kernel_rfl, fun w hSw => by (try dsimp only at hSw); obtain ⟨xa, xb, xc, xd, xe, xf, xg, xh, xi, xj⟩ := hSw.bx.all; obtain ⟨ya, yb, yc, yd, ye, yf, yg, yh, yi, yj⟩ := hSw.by_.all; go_simp⟩); exact Or.inr ⟨by kernel_rfl, rfl⟩)
   try simp only [Act.put, lqD, lqE, lqF]
   refine wpAnyG_take (i := 24) (v := .bool (x.ord || y.ord)) (oi := ⟨some 30, .pick (.tmp 27) (.const (Value.bool true)) (.tmp 29), 4, "ref.go:52", #[⟨21, .data⟩, ⟨23, .data⟩], none⟩) (by kernel_rfl) (by kernel_rfl) (by kernel_rfl) (by kernel_rfl) (by kernel_rfl) (fun _ _ _ h => h) ?hy24 (by assumption) ?_
   case hy24 => (cases x.ord <;> (simp only [cond_false, cond_true]; exact Or.inl ⟨by kernel_rfl, fun w hSw => by (try dsimp only at hSw); go_simp⟩))
   try simp only [Act.put, lqD, lqE, lqF]
   refine wpAnyG_ready (rs := [27, 29]) (by kernel_rfl) (by simp) ?_
   refine AllReadyG.cons (o := ⟨some 33, .call { callee := .value (.func 124), args := #[.tmp 32], argTypes := #[63] }, 63, "ref.go:52", #[⟨26, .data⟩, ⟨21, .chain⟩], none⟩) (by kernel_rfl) (fun K hK => ?_) ?_
   ·rw [if_pos (by kernel_rfl)]
    have hlt := hHeld.lt
    go_simp
    go_wp2_with fail
    refine (rints_any _ _ _ _ _ (HX.out.od.on hHeld.bel) KX.out.2.2.2).mono ?_
    rintro e W27 ⟨v27, rfl, hO⟩
    have hb := hO.bel
    obtain ⟨t27, rfl, hl, hH, hlo⟩ := hO.rdh hlt
    have R27 := hid hH
    have E27 := hid hl
    try have N27 : Hid (∀ z, t27.a = some z → z.block ≠ P29) := (fun z hz => by have h1 := hlo z hz; have h2 := HP.out.lt; omega)
    try replace R18 := hid (R18.out.on hb)
    try replace HP := hid (HP.out.on hb)
    have hM := hHeld.on hb
    refine hK.out _ _ hM (fun _ => ?_)
    clear hK K hHeld hlt hb hO hH hl hlo
    have hHeld := hM
    clear hM
    try simp only [Act.put, lqD, lqE, lqF]
    refine wpAnyG_take (i := 28) (v := ?_) (oi := ⟨some 34, .build 72 #[(0, .tmp 11), (1, .tmp 13), (4, .tmp 19), (5, .tmp 21), (6, .tmp 24), (7, .tmp 30), (8, .tmp 33)], 72, "ref.go:52", #[⟨5, .data⟩, ⟨7, .data⟩, ⟨13, .data⟩, ⟨15, .data⟩, ⟨18, .data⟩, ⟨24, .data⟩, ⟨27, .data⟩], none⟩) (by kernel_rfl) (by kernel_rfl) (by kernel_rfl) (by kernel_rfl) (by kernel_rfl) (fun _ _ _ h => h) (Or.inl ⟨by kernel_rfl, ?hy28⟩) (by assumption) ?_
    case hy28 => (intro wI hSw; (try dsimp only at hSw); obtain ⟨xa, xb, xc, xd, xe, xf, xg, xh, xi, xj⟩ := hSw.bx.all; obtain ⟨ya, yb, yc, yd, ye, yf, yg, yh, yi, yj⟩ := hSw.by_.all; go_simp; try with_reducible rfl)
    try simp only [Act.put, lqD, lqE, lqF]
    refine wpAnyG_ready (rs := [29]) (by kernel_rfl) (by simp) ?_
    refine AllReadyG.cons (o := ⟨some 5, .alloc 72, 0, "ref.go:52", #[], none⟩) (by kernel_rfl) (fun K hK => ?_) AllReadyG.nil
    rw [if_pos (by kernel_rfl)]
    have hb := bel_new W27 (.cells #[.bool false, .int .i64 0, .slice none 0 0, .slice none 0 0, .bool false, .bool false, .slice none 0 0, .bool false, .slice none 0 0, .slice none 0 0] 72)
    have hM := hHeld.on hb
    have hk : Bs _ W27.heap.size sx0 := bs_new W27 sx0
    have hlt := hHeld.lt
    try have N18 : Hid (∀ z, t18.a = some z → z.block ≠ W27.heap.size) := (fun z hz => by have h1 := (R18.out.far z hz).2; omega)
    try have N27 : Hid (∀ z, t27.a = some z → z.block ≠ W27.heap.size) := (fun z hz => by have h1 := (R27.out.far z hz).2; omega)
    try replace R18 := hid (R18.out.on hb)
    try replace R27 := hid (R27.out.on hb)
    go_simp
    refine hK.out _ _ hM (fun _ => ?_)
    clear hK K hHeld
    obtain ⟨P29, hP29⟩ : ∃ P, P = W27.heap.size := ⟨_, rfl⟩
    rw [← hP29] at hk hlt ⊢
    try rw [← hP29] at N18
    try rw [← hP29] at N27
    have HP := hid hk
    have HLT := hid hlt
    clear hP29 hk hlt
    skip
    change Hid (Bs (W27.alloc (.cells #[.bool false, .int .i64 0, .slice none 0 0, .slice none 0 0, .bool false, .bool false, .slice none 0 0, .bool false, .slice none 0 0, .slice none 0 0] 72)) P29 sx0) at HP
    generalize W27.alloc (.cells #[.bool false, .int .i64 0, .slice none 0 0, .slice none 0 0, .bool false, .bool false, .slice none 0 0, .bool false, .slice none 0 0, .slice none 0 0] 72) = W29 at *
    have hHeld := hM
    clear hM hb
    try simp only [Act.put, lqD, lqE, lqF]
    have hG := hHeld
    clear hHeld
    have hHeld : True := trivial
    refine wpAnyG_gateOp (og := ⟨none, .store 72 (.tmp 5) (.tmp 34), 0, "ref.go:52", #[⟨29, .data⟩, ⟨28, .data⟩, ⟨27, .chain⟩, ⟨0, .phase⟩, ⟨1, .phase⟩, ⟨2, .phase⟩, ⟨3, .phase⟩, ⟨4, .phase⟩, ⟨5, .phase⟩, ⟨6, .phase⟩, ⟨7, .phase⟩, ⟨8, .phase⟩, ⟨9, .phase⟩, ⟨10, .phase⟩, ⟨11, .phase⟩, ⟨12, .phase⟩, ⟨13, .phase⟩, ⟨14, .phase⟩, ⟨15, .phase⟩, ⟨16, .phase⟩, ⟨17, .phase⟩, ⟨18, .phase⟩, ⟨19, .phase⟩, ⟨20, .phase⟩, ⟨21, .phase⟩, ⟨22, .phase⟩, ⟨23, .phase⟩, ⟨24, .phase⟩, ⟨25, .phase⟩, ⟨26, .phase⟩, ⟨27, .phase⟩, ⟨28, .phase⟩, ⟨29, .phase⟩], none⟩) (by kernel_rfl) (by kernel_rfl) (fun K hK => ?_)
    rw [if_pos (by kernel_rfl)]
    obtain ⟨za, zb, zc, zd, ze, zf, zg, zh, zi, zj⟩ := HP.out.all
    dsimp only [sx0, sl0] at za zb zc zd ze zf zg zh zi zj
    have fz := HP.out.fz
    have hl2 := HLT.out
    have hQ : Mk w x y P29 { sx0 with at_ := x.at_ || y.at_, buf := x.buf, inp := x.inp || y.inp, all := x.all, rg := t18, ord := x.ord || y.ord, od := t27 } (stz W29 P29 { sx0 with at_ := x.at_ || y.at_, buf := x.buf, inp := x.inp || y.inp, all := x.all, rg := t18, ord := x.ord || y.ord, od := t27 }) := ⟨⟨bs_other_stz hG.bx (by omega) _, bs_other_stz hG.by_ (by omega) _, bs_other_stz hG.bz (by omega) _, below_stz hG.bel (by omega) _⟩, HP.out.stz _, SxX.stz ⟨RdX.none _ _ _ _, RdX.none _ _ _ _, ⟨R18.out.rd, fun z hz => ⟨(R18.out.far z hz).1, N18.out z hz⟩⟩, ⟨R27.out.rd, fun z hz => ⟨(R27.out.far z hz).1, N27.out z hz⟩⟩, RdX.none _ _ _ _⟩ (.inl rfl) _, hl2⟩
    go_simp
    refine hK.out _ _ trivial (fun _ => ?_)
    clear hK K
    try simp only [Act.put, lqD, lqE, lqF]
    refine wpAnyH_done (by kernel_rfl) ?_ _
    go_wp2_with fail
    go_meet
    exact ⟨P29, t18, t27, rfl, hQ, E18.out, E27.out⟩
   refine AllReadyG.cons (o := ⟨some 5, .alloc 72, 0, "ref.go:52", #[], none⟩) (by kernel_rfl) (fun K hK => ?_) ?_
   ·rw [if_pos (by kernel_rfl)]
    have hb := bel_new W18 (.cells #[.bool false, .int .i64 0, .slice none 0 0, .slice none 0 0, .bool false, .bool false, .slice none 0 0, .bool false, .slice none 0 0, .slice none 0 0] 72)
    have hM := hHeld.on hb
    have hk : Bs _ W18.heap.size sx0 := bs_new W18 sx0
    have hlt := hHeld.lt
    try have N18 : Hid (∀ z, t18.a = some z → z.block ≠ W18.heap.size) := (fun z hz => by have h1 := (R18.out.far z hz).2; omega)
    try have N27 : Hid (∀ z, t27.a = some z → z.block ≠ W18.heap.size) := (fun z hz => by have h1 := (R27.out.far z hz).2; omega)
    try replace R18 := hid (R18.out.on hb)
    try replace R27 := hid (R27.out.on hb)
    go_simp
    refine hK.out _ _ hM (fun _ => ?_)
    clear hK K hHeld
    obtain ⟨P29, hP29⟩ : ∃ P, P = W18.heap.size := ⟨_, rfl⟩
    rw [← hP29] at hk hlt ⊢
    try rw [← hP29] at N18
    try rw [← hP29] at N27
    have HP := hid hk
    have HLT := hid hlt
    clear hP29 hk hlt
    skip
    change Hid (Bs (W18.alloc (.cells #[.bool false, .int .i64 0, .slice none 0 0, .slice none 0 0, .bool false, .bool false, .slice none 0 0, .bool false, .slice none 0 0, .slice none 0 0] 72)) P29 sx0) at HP
    generalize W18.alloc (.cells #[.bool false, .int .i64 0, .slice none 0 0, .slice none 0 0, .bool false, .bool false, .slice none 0 0, .bool false, .slice none 0 0, .slice none 0 0] 72) = W29 at *
    have hHeld := hM
    clear hM hb
    try simp only [Act.put, lqD, lqE, lqF]
    refine wpAnyG_ready (rs := [27]) (by kernel_rfl) (by simp) ?_
    refine AllReadyG.cons (o := ⟨some 33, .call { callee := .value (.func 124), args := #[.tmp 32], argTypes := #[63] }, 63, "ref.go:52", #[⟨26, .data⟩, ⟨21, .chain⟩], none⟩) (by kernel_rfl) (fun K hK => ?_) AllReadyG.nil
    rw [if_pos (by kernel_rfl)]
    have hlt := hHeld.lt
    go_simp
    go_wp2_with fail
    refine (rints_any _ _ _ _ _ (HX.out.od.on hHeld.bel) KX.out.2.2.2).mono ?_
    rintro e W27 ⟨v27, rfl, hO⟩
    have hb := hO.bel
    obtain ⟨t27, rfl, hl, hH, hlo⟩ := hO.rdh hlt
    have R27 := hid hH
    have E27 := hid hl
    try have N27 : Hid (∀ z, t27.a = some z → z.block ≠ P29) := (fun z hz => by have h1 := hlo z hz; have h2 := HP.out.lt; omega)
    try replace R18 := hid (R18.out.on hb)
    try replace HP := hid (HP.out.on hb)
    have hM := hHeld.on hb
    refine hK.out _ _ hM (fun _ => ?_)
    clear hK K hHeld hlt hb hO hH hl hlo
    have hHeld := hM
    clear hM
    try simp only [Act.put, lqD, lqE, lqF]
    refine wpAnyG_take (i := 28) (v := ?_) (oi := ⟨some 34, .build 72 #[(0, .tmp 11), (1, .tmp 13), (4, .tmp 19), (5, .tmp 21), (6, .tmp 24), (7, .tmp 30), (8, .tmp 33)], 72, "ref.go:52", #[⟨5, .data⟩, ⟨7, .data⟩, ⟨13, .data⟩, ⟨15, .data⟩, ⟨18, .data⟩, ⟨24, .data⟩, ⟨27, .data⟩], none⟩) (by kernel_rfl) (by kernel_rfl) (by kernel_rfl) (by kernel_rfl) (by kernel_rfl) (fun _ _ _ h => h) (Or.inl ⟨by kernel_rfl, ?hy28⟩) (by assumption) ?_
    case hy28 => (intro wI hSw; (try dsimp only at hSw); obtain ⟨xa, xb, xc, xd, xe, xf, xg, xh, xi, xj⟩ := hSw.bx.all; obtain ⟨ya, yb, yc, yd, ye, yf, yg, yh, yi, yj⟩ := hSw.by_.all; go_simp; try with_reducible rfl)
    try simp only [Act.put, lqD, lqE, lqF]
    have hG := hHeld
    clear hHeld
    have hHeld : True := trivial
    refine wpAnyG_gateOp (og := ⟨none, .store 72 (.tmp 5) (.tmp 34), 0, "ref.go:52", #[⟨29, .data⟩, ⟨28, .data⟩, ⟨27, .chain⟩, ⟨0, .phase⟩, ⟨1, .phase⟩, ⟨2, .phase⟩, ⟨3, .phase⟩, ⟨4, .phase⟩, ⟨5, .phase⟩, ⟨6, .phase⟩, ⟨7, .phase⟩, ⟨8, .phase⟩, ⟨9, .phase⟩, ⟨10, .phase⟩, ⟨11, .phase⟩, ⟨12, .phase⟩, ⟨13, .phase⟩, ⟨14, .phase⟩, ⟨15, .phase⟩, ⟨16, .phase⟩, ⟨17, .phase⟩, ⟨18, .phase⟩, ⟨19, .phase⟩, ⟨20, .phase⟩, ⟨21, .phase⟩, ⟨22, .phase⟩, ⟨23, .phase⟩, ⟨24, .phase⟩, ⟨25, .phase⟩, ⟨26, .phase⟩, ⟨27, .phase⟩, ⟨28, .phase⟩, ⟨29, .phase⟩], none⟩) (by kernel_rfl) (by kernel_rfl) (fun K hK => ?_)
    rw [if_pos (by kernel_rfl)]
    obtain ⟨za, zb, zc, zd, ze, zf, zg, zh, zi, zj⟩ := HP.out.all
    dsimp only [sx0, sl0] at za zb zc zd ze zf zg zh zi zj
    have fz := HP.out.fz
    have hl2 := HLT.out
    have hQ : Mk w x y P29 { sx0 with at_ := x.at_ || y.at_, buf := x.buf, inp := x.inp || y.inp, all := x.all, rg := t18, ord := x.ord || y.ord, od := t27 } (stz W27 P29 { sx0 with at_ := x.at_ || y.at_, buf := x.buf, inp := x.inp || y.inp, all := x.all, rg := t18, ord := x.ord || y.ord, od := t27 }) := ⟨⟨bs_other_stz hG.bx (by omega) _, bs_other_stz hG.by_ (by omega) _, bs_other_stz hG.bz (by omega) _, below_stz hG.bel (by omega) _⟩, HP.out.stz _, SxX.stz ⟨RdX.none _ _ _ _, RdX.none _ _ _ _, ⟨R18.out.rd, fun z hz => ⟨(R18.out.far z hz).1, N18.out z hz⟩⟩, ⟨R27.out.rd, fun z hz => ⟨(R27.out.far z hz).1, N27.out z hz⟩⟩, RdX.none _ _ _ _⟩ (.inl rfl) _, hl2⟩
    go_simp
    refine hK.out _ _ trivial (fun _ => ?_)
    clear hK K
    try simp only [Act.put, lqD, lqE, lqF]
    refine wpAnyH_done (by kernel_rfl) ?_ _
    go_wp2_with fail
    go_meet
    exact ⟨P29, t18, t27, rfl, hQ, E18.out, E27.out⟩
   exact AllReadyG.nil
  refine AllReadyG.cons (o := ⟨some 5, .alloc 72, 0, "ref.go:52", #[], none⟩) (by kernel_rfl) (fun K hK => ?_) ?_
  ·rw [if_pos (by kernel_rfl)]
   have hb := bel_new W0 (.cells #[.bool false, .int .i64 0, .slice none 0 0, .slice none 0 0, .bool false, .bool false, .slice none 0 0, .bool false, .slice none 0 0, .slice none 0 0] 72)
   have hM := hHeld.on hb
   have hk : Bs _ W0.heap.size sx0 := bs_new W0 sx0
   have hlt := hHeld.lt
   try have N18 : Hid (∀ z, t18.a = some z → z.block ≠ W0.heap.size) := (fun z hz => by have h1 := (R18.out.far z hz).2; omega)
   try have N27 : Hid (∀ z, t27.a = some z → z.block ≠ W0.heap.size) := (fun z hz => by have h1 := (R27.out.far z hz).2; omega)
   try replace R18 := hid (R18.out.on hb)
   try replace R27 := hid (R27.out.on hb)
   go_simp
   refine hK.out _ _ hM (fun _ => ?_)
   clear hK K hHeld
   obtain ⟨P29, hP29⟩ : ∃ P, P = W0.heap.size := ⟨_, rfl⟩
   rw [← hP29] at hk hlt ⊢
   try rw [← hP29] at N18
   try rw [← hP29] at N27
   have HP := hid hk
   have HLT := hid hlt
   clear hP29 hk hlt
   skip
   change Hid (Bs (W0.alloc (.cells #[.bool false, .int .i64 0, .slice none 0 0, .slice none 0 0, .bool false, .bool false, .slice none 0 0, .bool false, .slice none 0 0, .slice none 0 0] 72)) P29 sx0) at HP
   generalize W0.alloc (.cells #[.bool false, .int .i64 0, .slice none 0 0, .slice none 0 0, .bool false, .bool false, .slice none 0 0, .bool false, .slice none 0 0, .slice none 0 0] 72) = W29 at *
   have hHeld := hM
   clear hM hb
   try simp only [Act.put, lqD, lqE, lqF]
   refine wpAnyG_ready (rs := [18]) (by kernel_rfl) (by simp) ?_
   refine AllReadyG.cons (o := ⟨some 24, .call { callee := .value (.func 123), args := #[.tmp 23], argTypes := #[55] }, 55, "ref.go:52", #[⟨17, .data⟩, ⟨10, .chain⟩], none⟩) (by kernel_rfl) (fun K hK => ?_) AllReadyG.nil
   rw [if_pos (by kernel_rfl)]
   have hlt := hHeld.lt
   go_simp
   go_wp2_with fail
   refine (rrects_any _ _ _ _ _ (HX.out.rg.on hHeld.bel) KX.out.2.2.1).mono ?_
   rintro e W18 ⟨v18, rfl, hO⟩
   have hb := hO.bel
   obtain ⟨t18, rfl, hl, hH, hlo⟩ := hO.rdh hlt
   have R18 := hid hH
   have E18 := hid hl
   try have N18 : Hid (∀ z, t18.a = some z → z.block ≠ P29) := (fun z hz => by have h1 := hlo z hz; have h2 := HP.out.lt; omega)
   try replace HP := hid (HP.out.on hb)
   have hM := hHeld.on hb
   refine hK.out _ _ hM (fun _ => ?_)
   clear hK K hHeld hlt hb hO hH hl hlo
   have hHeld := hM
   clear hM
   try simp only [Act.put, lqD, lqE, lqF]
   refine wpAnyG_take (i := 21) (v := ?_) (oi := ⟨some 27, .move (.tmp 26), 4, "ref.go:52", #[⟨20, .data⟩, ⟨18, .chain⟩], none⟩) (by kernel_rfl) (by kernel_rfl) (by kernel_rfl) (by kernel_rfl) (by kernel_rfl) (fun _ _ _ h => h) (Or.inl ⟨by kernel_rfl, ?hy21⟩) (by assumption) ?_
   case hy21 => (intro wI hSw; (try dsimp only at hSw); obtain ⟨xa, xb, xc, xd, xe, xf, xg, xh, xi, xj⟩ := hSw.bx.all; obtain ⟨ya, yb, yc, yd, ye, yf, yg, yh, yi, yj⟩ := hSw.by_.all; go_simp; try with_reducible rfl)
   try simp only [Act.put, lqD, lqE, lqF]
   refine wpAnyG_take (i := 22) (v := bif x.ord then undef else .pointer (some ⟨w.heap.size + 1, 7, none⟩)) (oi := ⟨some 28, .fieldAddr 72 (.tmp 3) 7, 0, "ref.go:52", #[⟨21, .guard⟩], some (21, false)⟩) (by kernel_rfl) (by kernel_rfl) (by kernel_rfl) (by kernel_rfl) (by kernel_rfl) (fun _ _ _ h => h) ?hy22 (by assumption) ?_
   case hy22 => (cases x.ord; (exact Or.inl ⟨by kernel_rfl, fun w hSw => by (try dsimp only at hSw); go_simp⟩); exact Or.inr ⟨by kernel_rfl, rfl⟩)
   try simp only [Act.put, lqD, lqE, lqF]
   refine wpAnyG_take (i := 23) (v := bif x.ord then undef else .bool y.ord) (oi := ⟨some 29, .load 4 (.tmp 28), 4, "ref.go:52", #[⟨22, .data⟩, ⟨21, .guard⟩], some (21, false)⟩) (by kernel_rfl) (by kernel_rfl) (by kernel_rfl) (by kernel_rfl) (by kernel_rfl) (fun _ _ _ h => h) ?hy23 (by assumption) ?_
   case hy23 => (cases x.ord; (exact Or.inl ⟨by kernel_rfl, fun w hSw => by (try dsimp only at hSw); obtain ⟨xa, xb, xc, xd, xe, xf, xg, xh, xi, xj⟩ := hSw.bx.all; obtain ⟨ya, yb, yc, yd, ye, yf, yg, yh, yi, yj⟩ := hSw.by_.all; go_simp⟩); exact Or.inr ⟨by kernel_rfl, rfl⟩)
   try simp only [Act.put, lqD, lqE, lqF]
   refine wpAnyG_take (i := 24) (v := .bool (x.ord || y.ord)) (oi := ⟨some 30, .pick (.tmp 27) (.const (Value.bool true)) (.tmp 29), 4, "ref.go:52", #[⟨21, .data⟩, ⟨23, .data⟩], none⟩) (by kernel_rfl) (by kernel_rfl) (by kernel_rfl) (by kernel_rfl) (by kernel_rfl) (fun _ _ _ h => h) ?hy24 (by assumption) ?_
   case hy24 => (cases x.ord <;> (simp only [cond_false, cond_true]; exact Or.inl ⟨by kernel_rfl, fun w hSw => by (try dsimp only at hSw); go_simp⟩))
   try simp only [Act.put, lqD, lqE, lqF]
   refine wpAnyG_ready (rs := [27]) (by kernel_rfl) (by simp) ?_
   refine AllReadyG.cons (o := ⟨some 33, .call { callee := .value (.func 124), args := #[.tmp 32], argTypes := #[63] }, 63, "ref.go:52", #[⟨26, .data⟩, ⟨21, .chain⟩], none⟩) (by kernel_rfl) (fun K hK => ?_) AllReadyG.nil
   rw [if_pos (by kernel_rfl)]
   have hlt := hHeld.lt
   go_simp
   go_wp2_with fail
   refine (rints_any _ _ _ _ _ (HX.out.od.on hHeld.bel) KX.out.2.2.2).mono ?_
   rintro e W27 ⟨v27, rfl, hO⟩
   have hb := hO.bel
   obtain ⟨t27, rfl, hl, hH, hlo⟩ := hO.rdh hlt
   have R27 := hid hH
   have E27 := hid hl
   try have N27 : Hid (∀ z, t27.a = some z → z.block ≠ P29) := (fun z hz => by have h1 := hlo z hz; have h2 := HP.out.lt; omega)
   try replace R18 := hid (R18.out.on hb)
   try replace HP := hid (HP.out.on hb)
   have hM := hHeld.on hb
   refine hK.out _ _ hM (fun _ => ?_)
   clear hK K hHeld hlt hb hO hH hl hlo
   have hHeld := hM
   clear hM
   try simp only [Act.put, lqD, lqE, lqF]
   refine wpAnyG_take (i := 28) (v := ?_) (oi := ⟨some 34, .build 72 #[(0, .tmp 11), (1, .tmp 13), (4, .tmp 19), (5, .tmp 21), (6, .tmp 24), (7, .tmp 30), (8, .tmp 33)], 72, "ref.go:52", #[⟨5, .data⟩, ⟨7, .data⟩, ⟨13, .data⟩, ⟨15, .data⟩, ⟨18, .data⟩, ⟨24, .data⟩, ⟨27, .data⟩], none⟩) (by kernel_rfl) (by kernel_rfl) (by kernel_rfl) (by kernel_rfl) (by kernel_rfl) (fun _ _ _ h => h) (Or.inl ⟨by kernel_rfl, ?hy28⟩) (by assumption) ?_
   case hy28 => (intro wI hSw; (try dsimp only at hSw); obtain ⟨xa, xb, xc, xd, xe, xf, xg, xh, xi, xj⟩ := hSw.bx.all; obtain ⟨ya, yb, yc, yd, ye, yf, yg, yh, yi, yj⟩ := hSw.by_.all; go_simp; try with_reducible rfl)
   try simp only [Act.put, lqD, lqE, lqF]
   have hG := hHeld
   clear hHeld
   have hHeld : True := trivial
   refine wpAnyG_gateOp (og := ⟨none, .store 72 (.tmp 5) (.tmp 34), 0, "ref.go:52", #[⟨29, .data⟩, ⟨28, .data⟩, ⟨27, .chain⟩, ⟨0, .phase⟩, ⟨1, .phase⟩, ⟨2, .phase⟩, ⟨3, .phase⟩, ⟨4, .phase⟩, ⟨5, .phase⟩, ⟨6, .phase⟩, ⟨7, .phase⟩, ⟨8, .phase⟩, ⟨9, .phase⟩, ⟨10, .phase⟩, ⟨11, .phase⟩, ⟨12, .phase⟩, ⟨13, .phase⟩, ⟨14, .phase⟩, ⟨15, .phase⟩, ⟨16, .phase⟩, ⟨17, .phase⟩, ⟨18, .phase⟩, ⟨19, .phase⟩, ⟨20, .phase⟩, ⟨21, .phase⟩, ⟨22, .phase⟩, ⟨23, .phase⟩, ⟨24, .phase⟩, ⟨25, .phase⟩, ⟨26, .phase⟩, ⟨27, .phase⟩, ⟨28, .phase⟩, ⟨29, .phase⟩], none⟩) (by kernel_rfl) (by kernel_rfl) (fun K hK => ?_)
   rw [if_pos (by kernel_rfl)]
   obtain ⟨za, zb, zc, zd, ze, zf, zg, zh, zi, zj⟩ := HP.out.all
   dsimp only [sx0, sl0] at za zb zc zd ze zf zg zh zi zj
   have fz := HP.out.fz
   have hl2 := HLT.out
   have hQ : Mk w x y P29 { sx0 with at_ := x.at_ || y.at_, buf := x.buf, inp := x.inp || y.inp, all := x.all, rg := t18, ord := x.ord || y.ord, od := t27 } (stz W27 P29 { sx0 with at_ := x.at_ || y.at_, buf := x.buf, inp := x.inp || y.inp, all := x.all, rg := t18, ord := x.ord || y.ord, od := t27 }) := ⟨⟨bs_other_stz hG.bx (by omega) _, bs_other_stz hG.by_ (by omega) _, bs_other_stz hG.bz (by omega) _, below_stz hG.bel (by omega) _⟩, HP.out.stz _, SxX.stz ⟨RdX.none _ _ _ _, RdX.none _ _ _ _, ⟨R18.out.rd, fun z hz => ⟨(R18.out.far z hz).1, N18.out z hz⟩⟩, ⟨R27.out.rd, fun z hz => ⟨(R27.out.far z hz).1, N27.out z hz⟩⟩, RdX.none _ _ _ _⟩ (.inl rfl) _, hl2⟩
   go_simp
   refine hK.out _ _ trivial (fun _ => ?_)
   clear hK K
   try simp only [Act.put, lqD, lqE, lqF]
   refine wpAnyH_done (by kernel_rfl) ?_ _
   go_wp2_with fail
   go_meet
   exact ⟨P29, t18, t27, rfl, hQ, E18.out, E27.out⟩
  exact AllReadyG.nil
 obtain ⟨P, t18, t27, rfl, hM, e18, e27⟩ := hcut
 obtain ⟨s0, hs0⟩ : ∃ s : Sx, s = { sx0 with at_ := x.at_ || y.at_, buf := x.buf, inp := x.inp || y.inp, all := x.all, rg := t18, ord := x.ord || y.ord, od := t27 } := ⟨_, rfl⟩
 rw [← hs0] at hM
 have HM := hid hM
 have HS0 := hid hs0
 have E18 := hid e18
 have E27 := hid e27
 clear hM hs0 e18 e27 HM0
 obtain ⟨s1, hs⟩ : ∃ s : Sx, s = { s0 with buf := bif y.at_ then y.buf else s0.buf } := ⟨_, rfl⟩
 have HS1 := hid hs
 clear hs
 obtain ⟨ya, yb, yc, yd, ye, yf, yg, yh, yi, yj⟩ := HM.out.m0.by_.all
 go_upto_if 36 with (fail)
 go_cut [] (fun wc => Mk w x y P s1 wc)
 case first =>
  cases hA : y.at_
  ·have hsx : s1 = s0 := by rw [HS1.out, hA]; cases s0; simp
   go_wp2_with fail
   go_meet
   rw [hsx]
   exact HM.out
  ·obtain ⟨za, zb, zc, zd, ze, zf, zg, zh, zi, zj⟩ := HM.out.bs.all
   have fz := HM.out.bs.fz
   have HM2 := hid (HM.out.st { s0 with buf := y.buf } 1 (.int .i64 y.buf) rfl ⟨HM.out.rows.dm, HM.out.rows.fr, HM.out.rows.rg, HM.out.rows.od, HM.out.rows.pl⟩)
   go_wp2_with fail
   go_meet
   have hsx : s1 = { s0 with buf := y.buf } := by rw [HS1.out, hA]; simp
   rw [hsx]
   exact HM2.out
 clear ya yb yc yd ye yf yg yh yi yj HM
 have HM := hid hcut
 clear hcut
 obtain ⟨ya, yb, yc, yd, ye, yf, yg, yh, yi, yj⟩ := HM.out.m0.by_.all
 go_upto_if 41 with (fail)
 go_cut [] (fun wc => ∃ t46 : Sl, Mk w x y P { s1 with all := bif y.inp then y.all else s1.all, rg := t46 } wc ∧ t46.l = bif y.inp then y.rg.l else s1.rg.l)
 case first =>
  cases hA : y.inp
  ·go_wp2_with fail
   go_meet
   exact ⟨s1.rg, by rw [hA]; exact HM.out, by rw [hA]; rfl⟩
  ·go_upto_region 5 with fail
   refine wp_region_gate_drew (g := 6) (S := Mk w x y P s1) (by kernel_rfl) ?hh (fun hHeld => ?_)
   case hh => exact (HM.out.drew)
   generalize wc.drew = W0 at hHeld ⊢
   try dsimp only at hHeld
   refine wpAnyG_take (i := 0) (v := ?_) rfl (by kernel_rfl) (by kernel_rfl) (by kernel_rfl) (by kernel_rfl) (fun _ _ _ h => h) (Or.inl ⟨by kernel_rfl, ?hy0⟩) (by assumption) ?_
   case hy0 => (intro wI hSw; (try dsimp only at hSw); obtain ⟨ya, yb, yc, yd, ye, yf, yg, yh, yi, yj⟩ := hSw.m0.by_.all; go_simp; try with_reducible rfl)
   try simp only [Act.put, lqA, lqB, lqD, lqE, lqF]
   refine wpAnyG_take (i := 1) (v := ?_) rfl (by kernel_rfl) (by kernel_rfl) (by kernel_rfl) (by kernel_rfl) (fun _ _ _ h => h) (Or.inl ⟨by kernel_rfl, ?hy1⟩) (by assumption) ?_
   case hy1 => (intro wI hSw; (try dsimp only at hSw); obtain ⟨ya, yb, yc, yd, ye, yf, yg, yh, yi, yj⟩ := hSw.m0.by_.all; go_simp; try with_reducible rfl)
   try simp only [Act.put, lqA, lqB, lqC, lqD, lqE, lqF]
   refine wpAnyG_take (i := 2) (v := ?_) rfl (by kernel_rfl) (by kernel_rfl) (by kernel_rfl) (by kernel_rfl) (fun _ _ _ h => h) (Or.inl ⟨by kernel_rfl, ?hy2⟩) (by assumption) ?_
   case hy2 => (intro wI hSw; (try dsimp only at hSw); obtain ⟨ya, yb, yc, yd, ye, yf, yg, yh, yi, yj⟩ := hSw.m0.by_.all; go_simp; try with_reducible rfl)
   try simp only [Act.put, lqA, lqB, lqC, lqD, lqE, lqF]
   refine wpAnyG_take (i := 3) (v := ?_) rfl (by kernel_rfl) (by kernel_rfl) (by kernel_rfl) (by kernel_rfl) (fun _ _ _ h => h) (Or.inl ⟨by kernel_rfl, ?hy3⟩) (by assumption) ?_
   case hy3 => (intro wI hSw; (try dsimp only at hSw); obtain ⟨ya, yb, yc, yd, ye, yf, yg, yh, yi, yj⟩ := hSw.m0.by_.all; go_simp; try with_reducible rfl)
   try simp only [Act.put, lqA, lqB, lqC, lqD, lqE, lqF]
   refine wpAnyG_take (i := 5) (v := ?_) rfl (by kernel_rfl) (by kernel_rfl) (by kernel_rfl) (by kernel_rfl) (fun _ _ _ h => h) (Or.inl ⟨by kernel_rfl, ?hy5⟩) (by assumption) ?_
   case hy5 => (intro wI hSw; (try dsimp only at hSw); obtain ⟨ya, yb, yc, yd, ye, yf, yg, yh, yi, yj⟩ := hSw.m0.by_.all; go_simp; try with_reducible rfl)
   try simp only [Act.put, lqA, lqB, lqC, lqD, lqE, lqF]
   refine wpAnyG_ready (rs := [4]) (by kernel_rfl) (by simp) ?_
   refine AllReadyG.cons rfl (fun K hK => ?_) AllReadyG.nil
   have hlt := hHeld.lt
   have hlt2 := hHeld.m0.lt
   go_simp
   go_wp2_with fail
   refine (rrects_any _ _ _ _ _ (HY.out.rg.on hHeld.m0.bel) KY.out.2.2.1).mono ?_
   rintro e W4 ⟨v4, rfl, hO⟩
   have hb := hO.bel
   obtain ⟨t46, rfl, hl, hR⟩ := hO.rdx hlt2 hlt
   have HR := hid hR
   have HL := hid hl
   have hM := hHeld.on hb
   refine hK.out _ _ hM (fun _ => ?_)
   clear hK K hHeld hb hO hR hl hlt hlt2
   have hHeld := hM
   clear hM
   try simp only [Act.put, lqA, lqB, lqC, lqD, lqE, lqF]
   have hG := hHeld
   clear hHeld
   have hHeld : True := trivial
   refine wpAnyG_gateOp rfl (by kernel_rfl) (fun K hK => ?_)
   obtain ⟨za, zb, zc, zd, ze, zf, zg, zh, zi, zj⟩ := hG.bs.all
   have fz := hG.bs.fz
   replace HR := hid (HR.out.st (q := P) (.inl rfl) 5 (.bool y.all))
   have hG2 := hG.st ({ s1 with all := y.all }) 5 (.bool y.all) rfl ⟨hG.rows.dm, hG.rows.fr, hG.rows.rg, hG.rows.od, hG.rows.pl⟩
   go_simp
   refine hK.out _ _ trivial (fun _ => ?_)
   clear hK K fz za zb zc zd ze zf zg zh zi zj
   generalize W4.setCell ⟨P, 5, none⟩ (.bool y.all) = W6 at *
   clear hG
   have hG := hG2
   clear hG2
   try simp only [Act.put, lqA, lqB, lqC, lqD, lqE, lqF]
   refine wpAnyH_take (i := 7) (v := ?_) rfl (by kernel_rfl) (by kernel_rfl) (by kernel_rfl) (fun _ _ _ h => h) (Or.inl ⟨by kernel_rfl, ?hy7⟩) (by assumption) ?_
   case hy7 => (intro wI hSw; (try dsimp only at hSw); go_simp; try with_reducible rfl)
   try simp only [Act.put, lqA, lqB, lqC, lqD, lqE, lqF]
   refine wpAnyH_ready (rs := [8]) (by kernel_rfl) (by simp) ?_
   refine AllReadyH.cons rfl (fun K hK => ?_) AllReadyH.nil
   obtain ⟨za, zb, zc, zd, ze, zf, zg, zh, zi, zj⟩ := hG.bs.all
   have fz := hG.bs.fz
   have hG2 := hG.st ({ s1 with all := y.all, rg := t46 }) 6 (.slice t46.a t46.n t46.c) rfl ⟨hG.rows.dm, hG.rows.fr, HR.out, hG.rows.od, hG.rows.pl⟩
   go_simp
   refine hK.out _ _ trivial (fun _ => ?_)
   clear hK K fz za zb zc zd ze zf zg zh zi zj
   generalize W6.setCell ⟨P, 6, none⟩ (.slice t46.a t46.n t46.c) = W8 at *
   clear hG
   have hG := hG2
   clear hG2
   try simp only [Act.put, lqA, lqB, lqC, lqD, lqE, lqF]
   refine wpAnyH_done (by kernel_rfl) ?_ _
   go_wp2_with fail
   go_meet
   exact ⟨t46, by rw [hA]; exact hG, by rw [hA]; exact HL.out⟩
 obtain ⟨t46, hM, e46⟩ := hcut
 obtain ⟨s2, hs⟩ : ∃ s : Sx, s = { s1 with all := bif y.inp then y.all else s1.all, rg := t46 } := ⟨_, rfl⟩
 rw [← hs] at hM
 have HS2 := hid hs
 have E46 := hid e46
 clear ya yb yc yd ye yf yg yh yi yj HM
 have HM := hid hM
 clear hM hs e46
 obtain ⟨ya, yb, yc, yd, ye, yf, yg, yh, yi, yj⟩ := HM.out.m0.by_.all
 go_upto_if 50 with (fail)
 go_cut [] (fun wc => ∃ t53 : Sl, Mk w x y P { s2 with od := t53 } wc ∧ t53.l = bif y.ord then y.od.l else s2.od.l)
 case first =>
  cases hA : y.ord
  ·go_wp2_with fail
   go_meet
   exact ⟨s2.od, HM.out, by rw [hA]; rfl⟩
  ·have CI := hid (rints_any _ _ _ _ _ (HY.out.od.on HM.out.m0.bel) KY.out.2.2.2)
   go_wp2_with fail
   refine CI.out.mono ?_
   rintro e W5 ⟨v5, rfl, hO⟩
   have hb := hO.bel
   obtain ⟨t53, rfl, hl, hR⟩ := hO.rdx HM.out.m0.lt HM.out.lt
   have hM5 := HM.out.on hb
   obtain ⟨za, zb, zc, zd, ze, zf, zg, zh, zi, zj⟩ := hM5.bs.all
   have fz := hM5.bs.fz
   have HM5 := hid (hM5.st { s2 with od := t53 } 8 (.slice t53.a t53.n t53.c) rfl ⟨hM5.rows.dm, hM5.rows.fr, hM5.rows.rg, hR, hM5.rows.pl⟩)
   have HL := hid hl
   clear hO hR hl hb hM5 CI ya yb yc yd ye yf yg yh yi yj
   go_wp2_with fail
   go_meet
   exact ⟨t53, HM5.out, by rw [hA]; exact HL.out⟩
 obtain ⟨t53, hM, e53⟩ := hcut
 obtain ⟨s3, hs⟩ : ∃ s : Sx, s = { s2 with od := t53 } := ⟨_, rfl⟩
 rw [← hs] at hM
 have HS3 := hid hs
 have E53 := hid e53
 clear ya yb yc yd ye yf yg yh yi yj HM
 have HM := hid hM
 clear hM hs e53
 go_upto_region 8 with fail
 go_cut [] (fun wc => ∃ t60 : Sl, Mk w x y P { s3 with dm := t60 } wc ∧ t60.l = x.dm.l ++ y.dm.l)
 case first =>
  refine wp_region_gate_drew (g := 7) (S := Mk w x y P s3) (by kernel_rfl) ?hh (fun hHeld => ?_)
  case hh => exact (HM.out.drew)
  generalize wc.drew = W0 at hHeld ⊢
  try dsimp only at hHeld
  refine wpAnyG_take (i := 0) (v := ?_) rfl (by kernel_rfl) (by kernel_rfl) (by kernel_rfl) (by kernel_rfl) (fun _ _ _ h => h) (Or.inl ⟨by kernel_rfl, ?hy0⟩) (by assumption) ?_
  case hy0 => (intro wI hSw; (try dsimp only at hSw); obtain ⟨xa, xb, xc, xd, xe, xf, xg, xh, xi, xj⟩ := hSw.m0.bx.all; obtain ⟨ya, yb, yc, yd, ye, yf, yg, yh, yi, yj⟩ := hSw.m0.by_.all; go_simp; try with_reducible rfl)
  try simp only [Act.put, lqA, lqB, lqD, lqE, lqF]
  refine wpAnyG_take (i := 1) (v := ?_) rfl (by kernel_rfl) (by kernel_rfl) (by kernel_rfl) (by kernel_rfl) (fun _ _ _ h => h) (Or.inl ⟨by kernel_rfl, ?hy1⟩) (by assumption) ?_
  case hy1 => (intro wI hSw; (try dsimp only at hSw); obtain ⟨xa, xb, xc, xd, xe, xf, xg, xh, xi, xj⟩ := hSw.m0.bx.all; obtain ⟨ya, yb, yc, yd, ye, yf, yg, yh, yi, yj⟩ := hSw.m0.by_.all; go_simp; try with_reducible rfl)
  try simp only [Act.put, lqA, lqB, lqC, lqD, lqE, lqF]
  refine wpAnyG_take (i := 3) (v := ?_) rfl (by kernel_rfl) (by kernel_rfl) (by kernel_rfl) (by kernel_rfl) (fun _ _ _ h => h) (Or.inl ⟨by kernel_rfl, ?hy3⟩) (by assumption) ?_
  case hy3 => (intro wI hSw; (try dsimp only at hSw); obtain ⟨xa, xb, xc, xd, xe, xf, xg, xh, xi, xj⟩ := hSw.m0.bx.all; obtain ⟨ya, yb, yc, yd, ye, yf, yg, yh, yi, yj⟩ := hSw.m0.by_.all; go_simp; try with_reducible rfl)
  try simp only [Act.put, lqA, lqB, lqC, lqD, lqE, lqF]
  refine wpAnyG_take (i := 4) (v := ?_) rfl (by kernel_rfl) (by kernel_rfl) (by kernel_rfl) (by kernel_rfl) (fun _ _ _ h => h) (Or.inl ⟨by kernel_rfl, ?hy4⟩) (by assumption) ?_
  case hy4 => (intro wI hSw; (try dsimp only at hSw); obtain ⟨xa, xb, xc, xd, xe, xf, xg, xh, xi, xj⟩ := hSw.m0.bx.all; obtain ⟨ya, yb, yc, yd, ye, yf, yg, yh, yi, yj⟩ := hSw.m0.by_.all; go_simp; try with_reducible rfl)
  try simp only [Act.put, lqA, lqB, lqC, lqD, lqE, lqF]
  refine wpAnyG_ready (rs := [2]) (by kernel_rfl) (by simp) ?_
  refine AllReadyG.cons rfl (fun K hK => ?_) AllReadyG.nil
  have H0 := hid hHeld
  have hlt := hHeld.lt
  have hlt2 := hHeld.m0.lt
  go_simp
  go_wp2_with fail
  refine (rrects_any _ _ _ _ _ (HX.out.dm.on hHeld.m0.bel) KX.out.1).mono ?_
  rintro e W2 ⟨v2, rfl, hO⟩
  have hb := hO.bel
  obtain ⟨a2, c2, rfl, -, -⟩ := hO.rd
  have HO := hid hO
  have HLT := hid (And.intro hlt2 hlt)
  have hM := hHeld.on hb
  refine hK.out _ _ hM (fun _ => ?_)
  clear hK K hHeld hb hO hlt hlt2
  have hWB : W0.heap.size ≤ W2.heap.size := HO.out.bel.size
  have HWB := hid hWB
  clear hWB
  have hHeld := hM
  clear hM
  try simp only [Act.put, lqA, lqB, lqC, lqD, lqE, lqF]
  refine wpAnyG_ready (rs := [5]) (by kernel_rfl) (by simp) ?_
  refine AllReadyG.cons rfl (fun K hK => ?_) AllReadyG.nil
  obtain ⟨i0, hi, hn0, hn1, hn2⟩ := i4
  have hln : x.dm.l.length = x.dm.n := HX.out.dm.len
  have hka := KA.out.1
  refine step_appG (by kernel_rfl) (.tmp 57) (.tmp 59) 55 55 rfl _ 54 i0 (.agg #[.int .i64 0, .int .i64 0, .int .i64 0, .int .i64 0]) 4 32 Tryz.underlying55 hi hn0 hn1 hn2 rfl _ _ _ (by simp [Act.eval]) HO.out.own _ _ _ (by simp [Act.eval]) ((HY.out.dm.on hHeld.m0.bel).src Tryz.underlying55) (by simp only [maxLen]; omega) (fitsM (by omega) (by decide)) HWB.out ?_
  intro v5 W5 o5 g5
  have hO5 := HO.out.grown (k := y.dm.l) HY.out.dm.size (by rw [HY.out.dm.len]; exact o5) g5
  have hkp := kp_of_grown g5
  obtain ⟨t60, rfl, hl, hR⟩ := hO5.rdx HLT.out.1 HLT.out.2
  have HR := hid hR
  have HL := hid hl
  have hM := Mk.kp hHeld H0.out hkp (fun k hk => (HO.out.own.lt k (by simpa using hk)).1)
  refine hK.out _ _ hM (fun _ => ?_)
  clear hK K hHeld o5 g5 hO5 hkp hR hl i0 hi hn0 hn1 hn2 hka
  have hHeld := hM
  clear hM
  try simp only [Act.put, lqA, lqB, lqC, lqD, lqE, lqF]
  refine wpAnyG_take (i := 6) (v := ?_) rfl (by kernel_rfl) (by kernel_rfl) (by kernel_rfl) (by kernel_rfl) (fun _ _ _ h => h) (Or.inl ⟨by kernel_rfl, ?hy6⟩) (by assumption) ?_
  case hy6 => (intro wI hSw; (try dsimp only at hSw); obtain ⟨xa, xb, xc, xd, xe, xf, xg, xh, xi, xj⟩ := hSw.m0.bx.all; obtain ⟨ya, yb, yc, yd, ye, yf, yg, yh, yi, yj⟩ := hSw.m0.by_.all; go_simp; try with_reducible rfl)
  try simp only [Act.put, lqA, lqB, lqC, lqD, lqE, lqF]
  have hG := hHeld
  clear hHeld
  have hHeld : True := trivial
  refine wpAnyG_gateOp rfl (by kernel_rfl) (fun K hK => ?_)
  obtain ⟨za, zb, zc, zd, ze, zf, zg, zh, zi, zj⟩ := hG.bs.all
  have fz := hG.bs.fz
  have hG2 := hG.st ({ s3 with dm := t60 }) 2 (.slice t60.a t60.n t60.c) rfl ⟨HR.out, hG.rows.fr, hG.rows.rg, hG.rows.od, hG.rows.pl⟩
  go_simp
  refine hK.out _ _ trivial (fun _ => ?_)
  clear hK K fz za zb zc zd ze zf zg zh zi zj
  generalize W5.setCell ⟨P, 2, none⟩ (.slice t60.a t60.n t60.c) = W7 at *
  clear hG
  have hG := hG2
  clear hG2
  try simp only [Act.put, lqA, lqB, lqC, lqD, lqE, lqF]
  refine wpAnyH_done (by kernel_rfl) ?_ _
  go_wp2_with fail
  go_meet
  exact ⟨t60, hG, HL.out⟩
 obtain ⟨t60, hM, e⟩ := hcut
 obtain ⟨s4, hs⟩ : ∃ s : Sx, s = { s3 with dm := t60 } := ⟨_, rfl⟩
 rw [← hs] at hM
 have HS4 := hid hs
 have E60 := hid e
 clear HM
 have HM := hid hM
 clear hM hs e
 go_upto_region 9 with fail
 go_cut [] (fun wc => ∃ t67 : Sl, Mk w x y P { s4 with fr := t67 } wc ∧ t67.l = x.fr.l ++ y.fr.l)
 case first =>
  refine wp_region_gate_drew (g := 7) (S := Mk w x y P s4) (by kernel_rfl) ?hh (fun hHeld => ?_)
  case hh => exact (HM.out.drew)
  generalize wc.drew = W0 at hHeld ⊢
  try dsimp only at hHeld
  refine wpAnyG_take (i := 0) (v := ?_) rfl (by kernel_rfl) (by kernel_rfl) (by kernel_rfl) (by kernel_rfl) (fun _ _ _ h => h) (Or.inl ⟨by kernel_rfl, ?hy0⟩) (by assumption) ?_
  case hy0 => (intro wI hSw; (try dsimp only at hSw); obtain ⟨xa, xb, xc, xd, xe, xf, xg, xh, xi, xj⟩ := hSw.m0.bx.all; obtain ⟨ya, yb, yc, yd, ye, yf, yg, yh, yi, yj⟩ := hSw.m0.by_.all; go_simp; try with_reducible rfl)
  try simp only [Act.put, lqA, lqB, lqD, lqE, lqF]
  refine wpAnyG_take (i := 1) (v := ?_) rfl (by kernel_rfl) (by kernel_rfl) (by kernel_rfl) (by kernel_rfl) (fun _ _ _ h => h) (Or.inl ⟨by kernel_rfl, ?hy1⟩) (by assumption) ?_
  case hy1 => (intro wI hSw; (try dsimp only at hSw); obtain ⟨xa, xb, xc, xd, xe, xf, xg, xh, xi, xj⟩ := hSw.m0.bx.all; obtain ⟨ya, yb, yc, yd, ye, yf, yg, yh, yi, yj⟩ := hSw.m0.by_.all; go_simp; try with_reducible rfl)
  try simp only [Act.put, lqA, lqB, lqC, lqD, lqE, lqF]
  refine wpAnyG_take (i := 3) (v := ?_) rfl (by kernel_rfl) (by kernel_rfl) (by kernel_rfl) (by kernel_rfl) (fun _ _ _ h => h) (Or.inl ⟨by kernel_rfl, ?hy3⟩) (by assumption) ?_
  case hy3 => (intro wI hSw; (try dsimp only at hSw); obtain ⟨xa, xb, xc, xd, xe, xf, xg, xh, xi, xj⟩ := hSw.m0.bx.all; obtain ⟨ya, yb, yc, yd, ye, yf, yg, yh, yi, yj⟩ := hSw.m0.by_.all; go_simp; try with_reducible rfl)
  try simp only [Act.put, lqA, lqB, lqC, lqD, lqE, lqF]
  refine wpAnyG_take (i := 4) (v := ?_) rfl (by kernel_rfl) (by kernel_rfl) (by kernel_rfl) (by kernel_rfl) (fun _ _ _ h => h) (Or.inl ⟨by kernel_rfl, ?hy4⟩) (by assumption) ?_
  case hy4 => (intro wI hSw; (try dsimp only at hSw); obtain ⟨xa, xb, xc, xd, xe, xf, xg, xh, xi, xj⟩ := hSw.m0.bx.all; obtain ⟨ya, yb, yc, yd, ye, yf, yg, yh, yi, yj⟩ := hSw.m0.by_.all; go_simp; try with_reducible rfl)
  try simp only [Act.put, lqA, lqB, lqC, lqD, lqE, lqF]
  refine wpAnyG_ready (rs := [2]) (by kernel_rfl) (by simp) ?_
  refine AllReadyG.cons rfl (fun K hK => ?_) AllReadyG.nil
  have H0 := hid hHeld
  have hlt := hHeld.lt
  have hlt2 := hHeld.m0.lt
  go_simp
  go_wp2_with fail
  refine (rints_any _ _ _ _ _ (HX.out.fr.on hHeld.m0.bel) KX.out.2.1).mono ?_
  rintro e W2 ⟨v2, rfl, hO⟩
  have hb := hO.bel
  obtain ⟨a2, c2, rfl, -, -⟩ := hO.rd
  have HO := hid hO
  have HLT := hid (And.intro hlt2 hlt)
  have hM := hHeld.on hb
  refine hK.out _ _ hM (fun _ => ?_)
  clear hK K hHeld hb hO hlt hlt2
  have hWB : W0.heap.size ≤ W2.heap.size := HO.out.bel.size
  have HWB := hid hWB
  clear hWB
  have hHeld := hM
  clear hM
  try simp only [Act.put, lqA, lqB, lqC, lqD, lqE, lqF]
  refine wpAnyG_ready (rs := [5]) (by kernel_rfl) (by simp) ?_
  refine AllReadyG.cons rfl (fun K hK => ?_) AllReadyG.nil
  obtain ⟨i0, hi, hn0, hn1, hn2⟩ := i1
  have hln : x.fr.l.length = x.fr.n := HX.out.fr.len
  have hka := KA.out.2
  refine step_appG (by kernel_rfl) (.tmp 64) (.tmp 66) 63 63 rfl _ 3 i0 (.int .i64 0) 1 8 Tryz.underlying63 hi hn0 hn1 hn2 rfl _ _ _ (by simp [Act.eval]) HO.out.own _ _ _ (by simp [Act.eval]) ((HY.out.fr.on hHeld.m0.bel).src Tryz.underlying63) (by simp only [maxLen]; omega) (fitsM (by omega) (by decide)) HWB.out ?_
  intro v5 W5 o5 g5
  have hO5 := HO.out.grown (k := y.fr.l) HY.out.fr.size (by rw [HY.out.fr.len]; exact o5) g5
  have hkp := kp_of_grown g5
  obtain ⟨t67, rfl, hl, hR⟩ := hO5.rdx HLT.out.1 HLT.out.2
  have HR := hid hR
  have HL := hid hl
  have hM := Mk.kp hHeld H0.out hkp (fun k hk => (HO.out.own.lt k (by simpa using hk)).1)
  refine hK.out _ _ hM (fun _ => ?_)
  clear hK K hHeld o5 g5 hO5 hkp hR hl i0 hi hn0 hn1 hn2 hka
  have hHeld := hM
  clear hM
  try simp only [Act.put, lqA, lqB, lqC, lqD, lqE, lqF]
  refine wpAnyG_take (i := 6) (v := ?_) rfl (by kernel_rfl) (by kernel_rfl) (by kernel_rfl) (by kernel_rfl) (fun _ _ _ h => h) (Or.inl ⟨by kernel_rfl, ?hy6⟩) (by assumption) ?_
  case hy6 => (intro wI hSw; (try dsimp only at hSw); obtain ⟨xa, xb, xc, xd, xe, xf, xg, xh, xi, xj⟩ := hSw.m0.bx.all; obtain ⟨ya, yb, yc, yd, ye, yf, yg, yh, yi, yj⟩ := hSw.m0.by_.all; go_simp; try with_reducible rfl)
  try simp only [Act.put, lqA, lqB, lqC, lqD, lqE, lqF]
  have hG := hHeld
  clear hHeld
  have hHeld : True := trivial
  refine wpAnyG_gateOp rfl (by kernel_rfl) (fun K hK => ?_)
  obtain ⟨za, zb, zc, zd, ze, zf, zg, zh, zi, zj⟩ := hG.bs.all
  have fz := hG.bs.fz
  have hG2 := hG.st ({ s4 with fr := t67 }) 3 (.slice t67.a t67.n t67.c) rfl ⟨hG.rows.dm, HR.out, hG.rows.rg, hG.rows.od, hG.rows.pl⟩
  go_simp
  refine hK.out _ _ trivial (fun _ => ?_)
  clear hK K fz za zb zc zd ze zf zg zh zi zj
  generalize W5.setCell ⟨P, 3, none⟩ (.slice t67.a t67.n t67.c) = W7 at *
  clear hG
  have hG := hG2
  clear hG2
  try simp only [Act.put, lqA, lqB, lqC, lqD, lqE, lqF]
  refine wpAnyH_done (by kernel_rfl) ?_ _
  go_wp2_with fail
  go_meet
  exact ⟨t67, hG, HL.out⟩
 obtain ⟨t67, hM, e⟩ := hcut
 obtain ⟨s5, hs⟩ : ∃ s : Sx, s = { s4 with fr := t67 } := ⟨_, rfl⟩
 rw [← hs] at hM
 have HS5 := hid hs
 have E67 := hid e
 clear HM
 have HM := hid hM
 clear hM hs e
 go_upto_region 10 with fail
 go_cut [] (fun wc => ∃ t73 : Sl, Mk w x y P { s5 with pl := t73 } wc ∧ t73.l = puts x.pl.l y.pl.l)
 case first =>
  obtain ⟨ya, yb, yc, yd, ye, yf, yg, yh, yi, yj⟩ := HM.out.m0.by_.all
  obtain ⟨xa, xb, xc, xd, xe, xf, xg, xh, xi, xj⟩ := HM.out.m0.bx.all
  have CP := hid (rputs_any _ _ _ _ _ _ _ _ _ (HX.out.pl.on HM.out.m0.bel) (HY.out.pl.on HM.out.m0.bel) K9.out)
  go_wp2_with fail
  refine CP.out.mono ?_
  rintro e W9 ⟨v9, rfl, hO9⟩
  have hb := hO9.bel
  obtain ⟨t73, rfl, hl9, hF9⟩ := hO9.rdx HM.out.m0.lt HM.out.lt
  have hM9 := HM.out.on hb
  obtain ⟨za, zb, zc, zd, ze, zf, zg, zh, zi, zj⟩ := hM9.bs.all
  have fz := hM9.bs.fz
  have HM9 := hid (hM9.st { s5 with pl := t73 } 9 (.slice t73.a t73.n t73.c) rfl ⟨hM9.rows.dm, hM9.rows.fr, hM9.rows.rg, hM9.rows.od, hF9⟩)
  have HL9 := hid hl9
  clear hM9 hl9 hF9 hO9 hb CP xa xb xc xd xe xf xg xh xi xj ya yb yc yd ye yf yg yh yi yj
  go_wp2_with fail
  go_meet
  exact ⟨t73, HM9.out, HL9.out⟩
 obtain ⟨t73, hM, e73⟩ := hcut
 obtain ⟨r, hr⟩ : ∃ s : Sx, s = { s5 with pl := t73 } := ⟨_, rfl⟩
 rw [← hr] at hM
 have HR := hid hr
 have E73 := hid e73
 obtain ⟨za, zb, zc, zd, ze, zf, zg, zh, zi, zj⟩ := hM.bs.all
 obtain ⟨ra, rb, rc, rd, re, rf, rg, rh, ri, rj⟩ := hM.m0.bz.all
 have fz := hM.m0.bz.fz
 have HZ := hid (hM.m0.bz.stz r)
 have HB := hid (below_stz hM.m0.bel (show w.heap.size ≤ w.heap.size + 1 + 1 by omega) r)
 have HW := hid (hM.rows.stz (q := w.heap.size + 1 + 1) (.inr (Nat.le_refl _)) r)
 clear hM hr e73 HM
 go_wp2
 refine bodyPost_ret (results_cell_row rfl _ _ (w.heap.size + 1 + 1) _ _ _ _ rfl HZ.out.bk.obj Tryz.underlying72 rfl infoSt) rfl ?_
 refine ⟨r, rfl, ⟨HW.out.dm.rd, HW.out.fr.rd, HW.out.rg.rd, HW.out.od.rd, HW.out.pl.rd⟩, ⟨fun z e => by have := HW.out.dm.far z e; omega, fun z e => by have := HW.out.fr.far z e; omega, fun z e => by have := HW.out.rg.far z e; omega, fun z e => by have := HW.out.od.far z e; omega, fun z e => by have := HW.out.pl.far z e; omega⟩, ?_, HB.out⟩
 have h1 : s3.od.l = bif y.ord then y.od.l else x.od.l := by
  rw [HS3.out]
  show t53.l = _
  rw [E53.out, HS2.out]
  show (bif y.ord then y.od.l else s1.od.l) = _
  rw [HS1.out, HS0.out]
  show (bif y.ord then y.od.l else t27.l) = _
  rw [E27.out]
 have h2 : s3.rg.l = bif y.inp then y.rg.l else x.rg.l := by
  rw [HS3.out, HS2.out]
  show t46.l = _
  rw [E46.out, HS1.out, HS0.out]
  show (bif y.inp then y.rg.l else t18.l) = _
  rw [E18.out]
 have h3 : s3.at_ = (x.at_ || y.at_) ∧ s3.buf = (bif y.at_ then y.buf else x.buf) ∧ s3.inp = (x.inp || y.inp) ∧ s3.all = (bif y.inp then y.all else x.all) ∧ s3.ord = (x.ord || y.ord) := by
  rw [HS3.out, HS2.out, HS1.out, HS0.out]
  exact ⟨rfl, rfl, rfl, rfl, rfl⟩
 obtain ⟨g0, g1, g4, g5, g7⟩ := h3
 rw [HR.out, HS5.out, HS4.out]
 simp only [Sx.q, mrg, E73.out, E67.out, E60.out, h1, h2, g0, g1, g4, g5, g7]
end
end Go.Proofs.YtkjempffidndeaaGreatDoor
