/- Lemmas that the proof leans on. -/
import Derived.Test.YtkjempffidndeaaGreatDoorB08
namespace Go.Proofs.YtkjempffidndeaaGreatDoor
open Go Go.RowKit
open List renaming getElem_toArray → lqA, getElem_cons_zero → lqB, getElem_cons_succ → lqC, setIfInBounds_toArray → lqD, set_cons_zero → lqE, set_cons_succ → lqF
set_option maxRecDepth 100000
set_option maxHeartbeats 4000000
section
structure RdF (m : Nat) (u : World) (p : Nat) (s : Sl) : Prop where
 rd : RdM m u s.a s.n s.c s.l
 far : ∀ x, s.a = some x → p < x.block
theorem RdF.on {m : Nat} {u v : World} {p : Nat} {s : Sl} (h : RdF m u p s) (hb : Below u.heap.size u v) : RdF m v p s := ⟨h.rd.on hb, h.far⟩
theorem RdF.st {m : Nat} {u : World} {p q : Nat} {s : Sl} (h : RdF m u p s) (hq : q ≤ p) (k : Nat) (v : Value) : RdF m (u.setCell ⟨q, k, none⟩ v) p s :=
 ⟨h.rd.kp (X := [q]) ((Kp.refl [q] u).set ⟨q, k, none⟩ (by simp) v) (fun x hx _ hm => by
  have := h.far x hx
  simp only [List.mem_cons, List.not_mem_nil, or_false] at hm
  omega), h.far⟩
theorem OwM.rdf {m e : Nat} {w u : World} {v : Value} {l : List (List Int)} (h : OwM m e w u v l) {p : Nat} (hp : p < w.heap.size) : ∃ s : Sl, v = .slice s.a s.n s.c ∧ s.l = l ∧ RdF m u p s := by
 obtain ⟨a, c, rfl, h1, h2⟩ := h.rd
 exact ⟨⟨a, l.length, c, l⟩, rfl, rfl, h1, fun x hx => by have := (h2 x hx).1; omega⟩
def stz (u : World) (p : Nat) (r : Sx) : World := (((((((((u.setCell ⟨p, 0, none⟩ (.bool r.at_)).setCell ⟨p, 1, none⟩ (.int .i64 r.buf)).setCell ⟨p, 2, none⟩ (.slice r.dm.a r.dm.n r.dm.c)).setCell ⟨p, 3, none⟩ (.slice r.fr.a r.fr.n r.fr.c)).setCell ⟨p, 4, none⟩ (.bool r.inp)).setCell ⟨p, 5, none⟩ (.bool r.all)).setCell ⟨p, 6, none⟩ (.slice r.rg.a r.rg.n r.rg.c)).setCell ⟨p, 7, none⟩ (.bool r.ord)).setCell ⟨p, 8, none⟩ (.slice r.od.a r.od.n r.od.c)).setCell ⟨p, 9, none⟩ (.slice r.pl.a r.pl.n r.pl.c)
theorem Bs.stz {u : World} {p : Nat} {x : Sx} (h : Bs u p x) (r : Sx) : Bs (stz u p r) p r := ⟨by
 have h1 := ((((h.bk.set 0 (.bool r.at_)).set 1 (.int .i64 r.buf)).set 2 (.slice r.dm.a r.dm.n r.dm.c)).set 3 (.slice r.fr.a r.fr.n r.fr.c)).set 4 (.bool r.inp)
 have h2 := ((((h1.set 5 (.bool r.all)).set 6 (.slice r.rg.a r.rg.n r.rg.c)).set 7 (.bool r.ord)).set 8 (.slice r.od.a r.od.n r.od.c)).set 9 (.slice r.pl.a r.pl.n r.pl.c)
 simp only [List.setIfInBounds_toArray, List.set_cons_zero, List.set_cons_succ] at h2
 exact h2⟩
theorem below_stz {B : Nat} {w u : World} {p : Nat} (h : Below B w u) (hp : B ≤ p) (r : Sx) : Below B w (stz u p r) := (((((((((h.setCell (p := ⟨p, 0, none⟩) hp _).setCell (p := ⟨p, 1, none⟩) hp _).setCell (p := ⟨p, 2, none⟩) hp _).setCell (p := ⟨p, 3, none⟩) hp _).setCell (p := ⟨p, 4, none⟩) hp _).setCell (p := ⟨p, 5, none⟩) hp _).setCell (p := ⟨p, 6, none⟩) hp _).setCell (p := ⟨p, 7, none⟩) hp _).setCell (p := ⟨p, 8, none⟩) hp _).setCell (p := ⟨p, 9, none⟩) hp _
theorem RdF.stz {m : Nat} {u : World} {p q : Nat} {s : Sl} (h : RdF m u p s) (hq : q ≤ p) (r : Sx) : RdF m (stz u q r) p s := (((((((((h.st hq 0 _).st hq 1 _).st hq 2 _).st hq 3 _).st hq 4 _).st hq 5 _).st hq 6 _).st hq 7 _).st hq 8 _).st hq 9 _
structure Mi (w : World) (x y s : Sx) (u : World) : Prop where
 bx : Bs u w.heap.size x
 by_ : Bs u (w.heap.size + 1) y
 bz : Bs u (w.heap.size + 1 + 1) sx0
 bs : Bs u (w.heap.size + 1 + 1 + 1) s
 bel : RowKit.Below w.heap.size w u
theorem Mi.on {w : World} {x y s : Sx} {u v : World} (h : Mi w x y s u) (hb : Below u.heap.size u v) : Mi w x y s v := ⟨h.bx.on hb, h.by_.on hb, h.bz.on hb, h.bs.on hb, Below.on h.bel hb⟩
theorem Mi.drew {w : World} {x y s : Sx} {u : World} (h : Mi w x y s u) : Mi w x y s u.drew := h.on (Below.refl _ _).drew
theorem Mi.st {w : World} {x y s : Sx} {u : World} (h : Mi w x y s u) (s' : Sx) (k : Nat) (v : Value) (hs : (#[.bool s.at_, .int .i64 s.buf, .slice s.dm.a s.dm.n s.dm.c, .slice s.fr.a s.fr.n s.fr.c, .bool s.inp, .bool s.all, .slice s.rg.a s.rg.n s.rg.c, .bool s.ord, .slice s.od.a s.od.n s.od.c, .slice s.pl.a s.pl.n s.pl.c] : Array Value).setIfInBounds k v = #[.bool s'.at_, .int .i64 s'.buf, .slice s'.dm.a s'.dm.n s'.dm.c, .slice s'.fr.a s'.fr.n s'.fr.c, .bool s'.inp, .bool s'.all, .slice s'.rg.a s'.rg.n s'.rg.c, .bool s'.ord, .slice s'.od.a s'.od.n s'.od.c, .slice s'.pl.a s'.pl.n s'.pl.c]) : Mi w x y s' (u.setCell ⟨w.heap.size + 1 + 1 + 1, k, none⟩ v) :=
 ⟨h.bx.other (by omega) k v, h.by_.other (by omega) k v, h.bz.other (by omega) k v, ⟨by have := h.bs.bk.set k v; rw [hs] at this; exact this⟩, h.bel.setCell (p := ⟨w.heap.size + 1 + 1 + 1, k, none⟩) (by show w.heap.size ≤ w.heap.size + 1 + 1 + 1; omega) v⟩
theorem Mi.lt {w : World} {x y s : Sx} {u : World} (h : Mi w x y s u) : w.heap.size + 1 + 1 + 1 < u.heap.size := h.bs.lt
theorem mi_new (w : World) (x y : Sx) : Mi w x y x ((((w.alloc (.cells #[.bool x.at_, .int .i64 x.buf, .slice x.dm.a x.dm.n x.dm.c, .slice x.fr.a x.fr.n x.fr.c, .bool x.inp, .bool x.all, .slice x.rg.a x.rg.n x.rg.c, .bool x.ord, .slice x.od.a x.od.n x.od.c, .slice x.pl.a x.pl.n x.pl.c] 72)).alloc (.cells #[.bool y.at_, .int .i64 y.buf, .slice y.dm.a y.dm.n y.dm.c, .slice y.fr.a y.fr.n y.fr.c, .bool y.inp, .bool y.all, .slice y.rg.a y.rg.n y.rg.c, .bool y.ord, .slice y.od.a y.od.n y.od.c, .slice y.pl.a y.pl.n y.pl.c] 72)).alloc (.cells #[.bool sx0.at_, .int .i64 sx0.buf, .slice sx0.dm.a sx0.dm.n sx0.dm.c, .slice sx0.fr.a sx0.fr.n sx0.fr.c, .bool sx0.inp, .bool sx0.all, .slice sx0.rg.a sx0.rg.n sx0.rg.c, .bool sx0.ord, .slice sx0.od.a sx0.od.n sx0.od.c, .slice sx0.pl.a sx0.pl.n sx0.pl.c] 72)).alloc (.cells #[.bool x.at_, .int .i64 x.buf, .slice x.dm.a x.dm.n x.dm.c, .slice x.fr.a x.fr.n x.fr.c, .bool x.inp, .bool x.all, .slice x.rg.a x.rg.n x.rg.c, .bool x.ord, .slice x.od.a x.od.n x.od.c, .slice x.pl.a x.pl.n x.pl.c] 72)) := by
 have h1 := (((bs_new w x).on (bel_new _ (.cells #[.bool y.at_, .int .i64 y.buf, .slice y.dm.a y.dm.n y.dm.c, .slice y.fr.a y.fr.n y.fr.c, .bool y.inp, .bool y.all, .slice y.rg.a y.rg.n y.rg.c, .bool y.ord, .slice y.od.a y.od.n y.od.c, .slice y.pl.a y.pl.n y.pl.c] 72))).on (bel_new _ (.cells #[.bool sx0.at_, .int .i64 sx0.buf, .slice sx0.dm.a sx0.dm.n sx0.dm.c, .slice sx0.fr.a sx0.fr.n sx0.fr.c, .bool sx0.inp, .bool sx0.all, .slice sx0.rg.a sx0.rg.n sx0.rg.c, .bool sx0.ord, .slice sx0.od.a sx0.od.n sx0.od.c, .slice sx0.pl.a sx0.pl.n sx0.pl.c] 72))).on (bel_new _ (.cells #[.bool x.at_, .int .i64 x.buf, .slice x.dm.a x.dm.n x.dm.c, .slice x.fr.a x.fr.n x.fr.c, .bool x.inp, .bool x.all, .slice x.rg.a x.rg.n x.rg.c, .bool x.ord, .slice x.od.a x.od.n x.od.c, .slice x.pl.a x.pl.n x.pl.c] 72))
 have h2 := ((bs_new (w.alloc (.cells #[.bool x.at_, .int .i64 x.buf, .slice x.dm.a x.dm.n x.dm.c, .slice x.fr.a x.fr.n x.fr.c, .bool x.inp, .bool x.all, .slice x.rg.a x.rg.n x.rg.c, .bool x.ord, .slice x.od.a x.od.n x.od.c, .slice x.pl.a x.pl.n x.pl.c] 72)) y).on (bel_new _ (.cells #[.bool sx0.at_, .int .i64 sx0.buf, .slice sx0.dm.a sx0.dm.n sx0.dm.c, .slice sx0.fr.a sx0.fr.n sx0.fr.c, .bool sx0.inp, .bool sx0.all, .slice sx0.rg.a sx0.rg.n sx0.rg.c, .bool sx0.ord, .slice sx0.od.a sx0.od.n sx0.od.c, .slice sx0.pl.a sx0.pl.n sx0.pl.c] 72))).on (bel_new _ (.cells #[.bool x.at_, .int .i64 x.buf, .slice x.dm.a x.dm.n x.dm.c, .slice x.fr.a x.fr.n x.fr.c, .bool x.inp, .bool x.all, .slice x.rg.a x.rg.n x.rg.c, .bool x.ord, .slice x.od.a x.od.n x.od.c, .slice x.pl.a x.pl.n x.pl.c] 72))
 have h3 := (bs_new ((w.alloc (.cells #[.bool x.at_, .int .i64 x.buf, .slice x.dm.a x.dm.n x.dm.c, .slice x.fr.a x.fr.n x.fr.c, .bool x.inp, .bool x.all, .slice x.rg.a x.rg.n x.rg.c, .bool x.ord, .slice x.od.a x.od.n x.od.c, .slice x.pl.a x.pl.n x.pl.c] 72)).alloc (.cells #[.bool y.at_, .int .i64 y.buf, .slice y.dm.a y.dm.n y.dm.c, .slice y.fr.a y.fr.n y.fr.c, .bool y.inp, .bool y.all, .slice y.rg.a y.rg.n y.rg.c, .bool y.ord, .slice y.od.a y.od.n y.od.c, .slice y.pl.a y.pl.n y.pl.c] 72)) sx0).on (bel_new _ (.cells #[.bool x.at_, .int .i64 x.buf, .slice x.dm.a x.dm.n x.dm.c, .slice x.fr.a x.fr.n x.fr.c, .bool x.inp, .bool x.all, .slice x.rg.a x.rg.n x.rg.c, .bool x.ord, .slice x.od.a x.od.n x.od.c, .slice x.pl.a x.pl.n x.pl.c] 72))
 have h4 := bs_new (((w.alloc (.cells #[.bool x.at_, .int .i64 x.buf, .slice x.dm.a x.dm.n x.dm.c, .slice x.fr.a x.fr.n x.fr.c, .bool x.inp, .bool x.all, .slice x.rg.a x.rg.n x.rg.c, .bool x.ord, .slice x.od.a x.od.n x.od.c, .slice x.pl.a x.pl.n x.pl.c] 72)).alloc (.cells #[.bool y.at_, .int .i64 y.buf, .slice y.dm.a y.dm.n y.dm.c, .slice y.fr.a y.fr.n y.fr.c, .bool y.inp, .bool y.all, .slice y.rg.a y.rg.n y.rg.c, .bool y.ord, .slice y.od.a y.od.n y.od.c, .slice y.pl.a y.pl.n y.pl.c] 72)).alloc (.cells #[.bool sx0.at_, .int .i64 sx0.buf, .slice sx0.dm.a sx0.dm.n sx0.dm.c, .slice sx0.fr.a sx0.fr.n sx0.fr.c, .bool sx0.inp, .bool sx0.all, .slice sx0.rg.a sx0.rg.n sx0.rg.c, .bool sx0.ord, .slice sx0.od.a sx0.od.n sx0.od.c, .slice sx0.pl.a sx0.pl.n sx0.pl.c] 72)) x
 simp only [size_new] at h2 h3 h4
 exact ⟨h1, h2, h3, h4, Below.on (Below.on (Below.on (bel_new _ _) (bel_new _ _)) (bel_new _ _)) (bel_new _ _)⟩
structure Sx.New (x : Sx) (B : Nat) : Prop where
 dm : ∀ y, x.dm.a = some y → B ≤ y.block
 fr : ∀ y, x.fr.a = some y → B ≤ y.block
 rg : ∀ y, x.rg.a = some y → B ≤ y.block
 od : ∀ y, x.od.a = some y → B ≤ y.block
 pl : ∀ y, x.pl.a = some y → B ≤ y.block
theorem Sx.New.low {x : Sx} {B B' : Nat} (h : x.New B) (hB : B' ≤ B) : x.New B' := ⟨fun y e => Nat.le_trans hB (h.dm y e), fun y e => Nat.le_trans hB (h.fr y e), fun y e => Nat.le_trans hB (h.rg y e), fun y e => Nat.le_trans hB (h.od y e), fun y e => Nat.le_trans hB (h.pl y e)⟩
theorem rdm_stz {m : Nat} {u : World} {q : Nat} {s : Sl} (h : RdM m u s.a s.n s.c s.l) (hn : ∀ y, s.a = some y → q < y.block) (r : Sx) : RdM m (stz u q r) s.a s.n s.c s.l := (RdF.stz (p := q) ⟨h, hn⟩ (Nat.le_refl _) r).rd
theorem Sx.Ok.stz {x : Sx} {u : World} {B q : Nat} (h : x.Ok u) (hn : x.New B) (hq : q < B) (r : Sx) : x.Ok (stz u q r) :=
 ⟨rdm_stz h.dm (fun y e => Nat.lt_of_lt_of_le hq (hn.dm y e)) r, rdm_stz h.fr (fun y e => Nat.lt_of_lt_of_le hq (hn.fr y e)) r, rdm_stz h.rg (fun y e => Nat.lt_of_lt_of_le hq (hn.rg y e)) r, rdm_stz h.od (fun y e => Nat.lt_of_lt_of_le hq (hn.od y e)) r, rdm_stz h.pl (fun y e => Nat.lt_of_lt_of_le hq (hn.pl y e)) r⟩
def Rst (w : World) (q : Sq) (e : Ending) (w' : World) : Prop := ∃ r : Sx, e = .returned (.agg #[.bool r.at_, .int .i64 r.buf, .slice r.dm.a r.dm.n r.dm.c, .slice r.fr.a r.fr.n r.fr.c, .bool r.inp, .bool r.all, .slice r.rg.a r.rg.n r.rg.c, .bool r.ord, .slice r.od.a r.od.n r.od.c, .slice r.pl.a r.pl.n r.pl.c]) ∧ r.Ok w' ∧ r.New w.heap.size ∧ r.q = q ∧ Below w.heap.size w w'
def Sx.Plf (r : Sx) : Prop := ∀ y, r.pl.a = some y → ∀ z, (r.dm.a = some z → 0 < r.dm.n → z.block ≠ y.block) ∧ (r.fr.a = some z → 0 < r.fr.n → z.block ≠ y.block) ∧ (r.rg.a = some z → 0 < r.rg.n → z.block ≠ y.block) ∧ (r.od.a = some z → 0 < r.od.n → z.block ≠ y.block)
def Rso (w : World) (q : Sq) (e : Ending) (w' : World) : Prop := ∃ r : Sx, e = .returned (.agg #[.bool r.at_, .int .i64 r.buf, .slice r.dm.a r.dm.n r.dm.c, .slice r.fr.a r.fr.n r.fr.c, .bool r.inp, .bool r.all, .slice r.rg.a r.rg.n r.rg.c, .bool r.ord, .slice r.od.a r.od.n r.od.c, .slice r.pl.a r.pl.n r.pl.c]) ∧ r.Ok w' ∧ r.New w.heap.size ∧ r.q = q ∧ Below w.heap.size w w' ∧ w'.ownsRow w.heap.size 46 3 (.slice r.pl.a r.pl.n r.pl.c) r.pl.n (mcs r.pl.l) ∧ r.Plf
theorem Rso.rst {w w' : World} {q : Sq} {e : Ending} (h : Rso w q e w') : Rst w q e w' := by
 obtain ⟨r, h1, h2, h3, h4, h5, _⟩ := h
 exact ⟨r, h1, h2, h3, h4, h5⟩
theorem ownsRow_stz {u : World} {B T m n : Nat} {v : Value} {xs : List Value} (h : u.ownsRow B T m v n xs) (q : Nat) (hq : v.ownBlock ≠ some q) (r : Sx) : (stz u q r).ownsRow B T m v n xs :=
 ownsRow_set (ownsRow_set (ownsRow_set (ownsRow_set (ownsRow_set (ownsRow_set (ownsRow_set (ownsRow_set (ownsRow_set (ownsRow_set h ⟨q, 0, none⟩ hq _) ⟨q, 1, none⟩ hq _) ⟨q, 2, none⟩ hq _) ⟨q, 3, none⟩ hq _) ⟨q, 4, none⟩ hq _) ⟨q, 5, none⟩ hq _) ⟨q, 6, none⟩ hq _) ⟨q, 7, none⟩ hq _) ⟨q, 8, none⟩ hq _) ⟨q, 9, none⟩ hq _
theorem rdm_lt {m : Nat} {u : World} {s : Sl} (h : RdM m u s.a s.n s.c s.l) : ∀ y, s.a = some y → 0 < s.n → y.block < u.heap.size := fun y hy hn => by
 obtain ⟨b, off, e, hlt, _⟩ := h.pl hn
 rw [hy] at e
 cases e
 exact hlt
theorem joined4_two {B : Nat} {l m : List (List Int)} {u : World} {p : Nat} (hp : p < u.heap.size) (h : RdL 4 u B [l, m]) (hs : l.length + m.length ≤ 1000000) :
  Calls Tryz.prog 105 #[.slice (some ⟨B, 0, none⟩) 2 2] u fun e w' => ∃ s : Sl, e = .returned (.slice s.a s.n s.c) ∧ s.l = l ++ m ∧ RdF 4 w' p s ∧ Below u.heap.size u w' :=
 (joined4_any B 2 2 [l, m] u h rfl (by omega) (by rw [flat_two, List.length_append]; exact hs)).mono fun e w' ⟨v, he, hO⟩ => by
  obtain ⟨s, hv, hl, hF⟩ := hO.rdf hp
  exact ⟨s, by rw [he, hv], by rw [hl, flat_two], hF, hO.bel⟩
theorem joined4_one {B : Nat} {l : List (List Int)} {u : World} {p : Nat} (hp : p < u.heap.size) (h : RdL 4 u B [l]) (hs : l.length ≤ 1000000) :
  Calls Tryz.prog 105 #[.slice (some ⟨B, 0, none⟩) 1 1] u fun e w' => ∃ s : Sl, e = .returned (.slice s.a s.n s.c) ∧ s.l = l ∧ RdF 4 w' p s ∧ Below u.heap.size u w' :=
 (joined4_any B 1 1 [l] u h rfl (by omega) (by rw [flat_one]; exact hs)).mono fun e w' ⟨v, he, hO⟩ => by
  obtain ⟨s, hv, hl, hF⟩ := hO.rdf hp
  exact ⟨s, by rw [he, hv], by rw [hl, flat_one], hF, hO.bel⟩
theorem joined1_two {B : Nat} {l m : List (List Int)} {u : World} {p : Nat} (hp : p < u.heap.size) (h : RdL 1 u B [l, m]) (hs : l.length + m.length ≤ 1000000) :
  Calls Tryz.prog 106 #[.slice (some ⟨B, 0, none⟩) 2 2] u fun e w' => ∃ s : Sl, e = .returned (.slice s.a s.n s.c) ∧ s.l = l ++ m ∧ RdF 1 w' p s ∧ Below u.heap.size u w' :=
 (joined1_any B 2 2 [l, m] u h rfl (by omega) (by rw [flat_two, List.length_append]; exact hs)).mono fun e w' ⟨v, he, hO⟩ => by
  obtain ⟨s, hv, hl, hF⟩ := hO.rdf hp
  exact ⟨s, by rw [he, hv], by rw [hl, flat_two], hF, hO.bel⟩
theorem joined1_one {B : Nat} {l : List (List Int)} {u : World} {p : Nat} (hp : p < u.heap.size) (h : RdL 1 u B [l]) (hs : l.length ≤ 1000000) :
  Calls Tryz.prog 106 #[.slice (some ⟨B, 0, none⟩) 1 1] u fun e w' => ∃ s : Sl, e = .returned (.slice s.a s.n s.c) ∧ s.l = l ∧ RdF 1 w' p s ∧ Below u.heap.size u w' :=
 (joined1_any B 1 1 [l] u h rfl (by omega) (by rw [flat_one]; exact hs)).mono fun e w' ⟨v, he, hO⟩ => by
  obtain ⟨s, hv, hl, hF⟩ := hO.rdf hp
  exact ⟨s, by rw [he, hv], by rw [hl, flat_one], hF, hO.bel⟩
theorem mergeo_any (x y : Sx) (w : World) (okx : x.Ok w) (oky : y.Ok w) (lx : x.Len 1000) (ly : y.Len 1000) : Calls Tryz.prog 61 #[.agg #[.bool x.at_, .int .i64 x.buf, .slice x.dm.a x.dm.n x.dm.c, .slice x.fr.a x.fr.n x.fr.c, .bool x.inp, .bool x.all, .slice x.rg.a x.rg.n x.rg.c, .bool x.ord, .slice x.od.a x.od.n x.od.c, .slice x.pl.a x.pl.n x.pl.c], .agg #[.bool y.at_, .int .i64 y.buf, .slice y.dm.a y.dm.n y.dm.c, .slice y.fr.a y.fr.n y.fr.c, .bool y.inp, .bool y.all, .slice y.rg.a y.rg.n y.rg.c, .bool y.ord, .slice y.od.a y.od.n y.od.c, .slice y.pl.a y.pl.n y.pl.c]] w (Rso w (mrg x.q y.q)) := by
 have HX := hid okx
 have HY := hid oky
 obtain ⟨l2, l3, l6, l8, l9⟩ := lx
 obtain ⟨m2, m3, m6, m8, m9⟩ := ly
 have HN2 : Hid (x.dm.l.length + y.dm.l.length ≤ 1000000) := by rw [Hid, okx.dm.len, oky.dm.len]; omega
 have HN3 : Hid (x.fr.l.length + y.fr.l.length ≤ 1000000) := by rw [Hid, okx.fr.len, oky.fr.len]; omega
 have HN9 : Hid (x.pl.n + y.pl.n ≤ 1000000) := by rw [Hid]; omega
 have HNR : Hid (x.rg.l.length ≤ 1000000 ∧ y.rg.l.length ≤ 1000000) := by rw [Hid, okx.rg.len, oky.rg.len]; omega
 have HNO : Hid (x.od.l.length ≤ 1000000 ∧ y.od.l.length ≤ 1000000) := by rw [Hid, okx.od.len, oky.od.len]; omega
 have HMI := hid (mi_new w x y)
 clear okx oky l2 l3 l6 l8 l9 m2 m3 m6 m8 m9
 go_enter Tryz.func61, Tryz.ntmps61
 go_upto_region 1 with fail
 go_cut [0, 1, 5] (fun _ _ v wc => v = .pointer (some ⟨w.heap.size + 1 + 1 + 1, 0, none⟩) ∧ Mi w x y x wc)
 case first =>
  go_wp2_with fail
  go_meet
  exact ⟨rfl, HMI.out⟩
 obtain ⟨rfl, hM⟩ := hcut
 have HM := hid hM
 clear hM HMI
 obtain ⟨s1, hs⟩ : ∃ s : Sx, s = { x with at_ := x.at_ || y.at_, buf := bif y.at_ then y.buf else x.buf } := ⟨_, rfl⟩
 have HS1 := hid hs
 clear hs
 obtain ⟨ya, yb, yc, yd, ye, yf, yg, yh, yi, yj⟩ := HM.out.by_.all
 go_upto_if 8 with (fail)
 go_cut [] (fun wc => Mi w x y s1 wc)
 case first =>
  cases hA : y.at_
  ·have hsx : s1 = x := by rw [HS1.out, hA]; cases x; simp
   go_wp2_with fail
   go_meet
   rw [hsx]
   exact HM.out
  ·obtain ⟨za, zb, zc, zd, ze, zf, zg, zh, zi, zj⟩ := HM.out.bs.all
   have fz := HM.out.bs.fz
   have HM2 := hid (((HM.out.drew).st { x with at_ := true } 0 (.bool true) rfl).st { x with at_ := true, buf := y.buf } 1 (.int .i64 y.buf) rfl)
   go_wp2_with fail
   go_region
   go_wp2_with fail
   go_meet
   have hsx : s1 = { x with at_ := true, buf := y.buf } := by rw [HS1.out, hA]; simp
   rw [hsx]
   exact HM2.out
 clear ya yb yc yd ye yf yg yh yi yj HM
 have HM := hid hcut
 clear hcut
 obtain ⟨s2, hs⟩ : ∃ s : Sx, s = { s1 with inp := s1.inp || y.inp, all := bif y.inp then y.all else s1.all, rg := bif y.inp then y.rg else s1.rg } := ⟨_, rfl⟩
 have HS2 := hid hs
 clear hs
 obtain ⟨ya, yb, yc, yd, ye, yf, yg, yh, yi, yj⟩ := HM.out.by_.all
 go_upto_if 14 with (fail)
 go_cut [] (fun wc => Mi w x y s2 wc)
 case first =>
  cases hA : y.inp
  ·have hsx : s2 = s1 := by rw [HS2.out, hA]; cases s1; simp
   go_wp2_with fail
   go_meet
   rw [hsx]
   exact HM.out
  ·obtain ⟨za, zb, zc, zd, ze, zf, zg, zh, zi, zj⟩ := HM.out.bs.all
   have fz := HM.out.bs.fz
   have HM2 := hid ((((HM.out.drew).st { s1 with inp := true } 4 (.bool true) rfl).st { s1 with inp := true, all := y.all } 5 (.bool y.all) rfl).st { s1 with inp := true, all := y.all, rg := y.rg } 6 (.slice y.rg.a y.rg.n y.rg.c) rfl)
   go_wp2_with fail
   go_region
   go_wp2_with fail
   go_meet
   have hsx : s2 = { s1 with inp := true, all := y.all, rg := y.rg } := by rw [HS2.out, hA]; simp
   rw [hsx]
   exact HM2.out
 clear ya yb yc yd ye yf yg yh yi yj HM
 have HM := hid hcut
 clear hcut
 obtain ⟨s3, hs⟩ : ∃ s : Sx, s = { s2 with ord := s2.ord || y.ord, od := bif y.ord then y.od else s2.od } := ⟨_, rfl⟩
 have HS3 := hid hs
 clear hs
 obtain ⟨ya, yb, yc, yd, ye, yf, yg, yh, yi, yj⟩ := HM.out.by_.all
 go_upto_if 23 with (fail)
 go_cut [] (fun wc => Mi w x y s3 wc)
 case first =>
  cases hA : y.ord
  ·have hsx : s3 = s2 := by rw [HS3.out, hA]; cases s2; simp
   go_wp2_with fail
   go_meet
   rw [hsx]
   exact HM.out
  ·obtain ⟨za, zb, zc, zd, ze, zf, zg, zh, zi, zj⟩ := HM.out.bs.all
   have fz := HM.out.bs.fz
   have HM2 := hid (((HM.out.drew).st { s2 with ord := true } 7 (.bool true) rfl).st { s2 with ord := true, od := y.od } 8 (.slice y.od.a y.od.n y.od.c) rfl)
   go_wp2_with fail
   go_region
   go_wp2_with fail
   go_meet
   have hsx : s3 = { s2 with ord := true, od := y.od } := by rw [HS3.out, hA]; simp
   rw [hsx]
   exact HM2.out
 clear ya yb yc yd ye yf yg yh yi yj HM
 have HM := hid hcut
 clear hcut
 have ERG : Hid (s3.rg = bif y.inp then y.rg else x.rg) := by rw [Hid, HS3.out, HS2.out, HS1.out]
 have EOD : Hid (s3.od = bif y.ord then y.od else x.od) := by rw [Hid, HS3.out, HS2.out, HS1.out]
 have HRG : Hid (RdM 4 w s3.rg.a s3.rg.n s3.rg.c s3.rg.l ∧ s3.rg.l.length ≤ 1000000) := by
  rw [Hid, ERG.out]
  cases y.inp
  ·exact ⟨HX.out.rg, HNR.out.1⟩
  ·exact ⟨HY.out.rg, HNR.out.2⟩
 have HOD : Hid (RdM 1 w s3.od.a s3.od.n s3.od.c s3.od.l ∧ s3.od.l.length ≤ 1000000) := by
  rw [Hid, EOD.out]
  cases y.ord
  ·exact ⟨HX.out.od, HNO.out.1⟩
  ·exact ⟨HY.out.od, HNO.out.2⟩
 go_upto_region 8 with fail
 go_cut [] (fun wc => ∃ s5 s11 : Sl, Mi w x y { s3 with dm := s5, fr := s11 } wc ∧ s5.l = x.dm.l ++ y.dm.l ∧ s11.l = x.fr.l ++ y.fr.l ∧ RdF 4 wc (w.heap.size + 1 + 1 + 1) s5 ∧ RdF 1 wc (w.heap.size + 1 + 1 + 1) s11)
 case first =>
  refine wp_region_gate_drew (g := 13) (S := Mi w x y s3) (by kernel_rfl) ?hh (fun hHeld => ?_)
  case hh => exact (HM.out.drew)
  generalize wc.drew = W0 at hHeld ⊢
  try dsimp only at hHeld
  refine wpAnyG_take (i := 0) (v := ?_) rfl (by kernel_rfl) (by kernel_rfl) (by kernel_rfl) (by kernel_rfl) (fun _ _ _ h => h) (Or.inl ⟨by kernel_rfl, ?hy0⟩) (by assumption) ?_
  case hy0 => (intro w hSw; (try dsimp only at hSw); obtain ⟨xa, xb, xc, xd, xe, xf, xg, xh, xi, xj⟩ := hSw.bx.all; obtain ⟨ya, yb, yc, yd, ye, yf, yg, yh, yi, yj⟩ := hSw.by_.all; obtain ⟨za, zb, zc, zd, ze, zf, zg, zh, zi, zj⟩ := hSw.bs.all; go_simp; try with_reducible rfl)
  try simp only [Act.put, lqA, lqB, lqD, lqE, lqF]
  refine wpAnyG_take (i := 1) (v := ?_) rfl (by kernel_rfl) (by kernel_rfl) (by kernel_rfl) (by kernel_rfl) (fun _ _ _ h => h) (Or.inl ⟨by kernel_rfl, ?hy1⟩) (by assumption) ?_
  case hy1 => (intro w hSw; (try dsimp only at hSw); obtain ⟨xa, xb, xc, xd, xe, xf, xg, xh, xi, xj⟩ := hSw.bx.all; obtain ⟨ya, yb, yc, yd, ye, yf, yg, yh, yi, yj⟩ := hSw.by_.all; obtain ⟨za, zb, zc, zd, ze, zf, zg, zh, zi, zj⟩ := hSw.bs.all; go_simp; try with_reducible rfl)
  try simp only [Act.put, lqA, lqB, lqC, lqD, lqE, lqF]
  refine wpAnyG_take (i := 2) (v := ?_) rfl (by kernel_rfl) (by kernel_rfl) (by kernel_rfl) (by kernel_rfl) (fun _ _ _ h => h) (Or.inl ⟨by kernel_rfl, ?hy2⟩) (by assumption) ?_
  case hy2 => (intro w hSw; (try dsimp only at hSw); obtain ⟨xa, xb, xc, xd, xe, xf, xg, xh, xi, xj⟩ := hSw.bx.all; obtain ⟨ya, yb, yc, yd, ye, yf, yg, yh, yi, yj⟩ := hSw.by_.all; obtain ⟨za, zb, zc, zd, ze, zf, zg, zh, zi, zj⟩ := hSw.bs.all; go_simp; try with_reducible rfl)
  try simp only [Act.put, lqA, lqB, lqC, lqD, lqE, lqF]
  refine wpAnyG_take (i := 3) (v := ?_) rfl (by kernel_rfl) (by kernel_rfl) (by kernel_rfl) (by kernel_rfl) (fun _ _ _ h => h) (Or.inl ⟨by kernel_rfl, ?hy3⟩) (by assumption) ?_
  case hy3 => (intro w hSw; (try dsimp only at hSw); obtain ⟨xa, xb, xc, xd, xe, xf, xg, xh, xi, xj⟩ := hSw.bx.all; obtain ⟨ya, yb, yc, yd, ye, yf, yg, yh, yi, yj⟩ := hSw.by_.all; obtain ⟨za, zb, zc, zd, ze, zf, zg, zh, zi, zj⟩ := hSw.bs.all; go_simp; try with_reducible rfl)
  try simp only [Act.put, lqA, lqB, lqC, lqD, lqE, lqF]
  refine wpAnyG_take (i := 6) (v := ?_) rfl (by kernel_rfl) (by kernel_rfl) (by kernel_rfl) (by kernel_rfl) (fun _ _ _ h => h) (Or.inl ⟨by kernel_rfl, ?hy6⟩) (by assumption) ?_
  case hy6 => (intro w hSw; (try dsimp only at hSw); obtain ⟨xa, xb, xc, xd, xe, xf, xg, xh, xi, xj⟩ := hSw.bx.all; obtain ⟨ya, yb, yc, yd, ye, yf, yg, yh, yi, yj⟩ := hSw.by_.all; obtain ⟨za, zb, zc, zd, ze, zf, zg, zh, zi, zj⟩ := hSw.bs.all; go_simp; try with_reducible rfl)
  try simp only [Act.put, lqA, lqB, lqC, lqD, lqE, lqF]
  refine wpAnyG_take (i := 7) (v := ?_) rfl (by kernel_rfl) (by kernel_rfl) (by kernel_rfl) (by kernel_rfl) (fun _ _ _ h => h) (Or.inl ⟨by kernel_rfl, ?hy7⟩) (by assumption) ?_
  case hy7 => (intro w hSw; (try dsimp only at hSw); obtain ⟨xa, xb, xc, xd, xe, xf, xg, xh, xi, xj⟩ := hSw.bx.all; obtain ⟨ya, yb, yc, yd, ye, yf, yg, yh, yi, yj⟩ := hSw.by_.all; obtain ⟨za, zb, zc, zd, ze, zf, zg, zh, zi, zj⟩ := hSw.bs.all; go_simp; try with_reducible rfl)
  try simp only [Act.put, lqA, lqB, lqC, lqD, lqE, lqF]
  refine wpAnyG_take (i := 8) (v := ?_) rfl (by kernel_rfl) (by kernel_rfl) (by kernel_rfl) (by kernel_rfl) (fun _ _ _ h => h) (Or.inl ⟨by kernel_rfl, ?hy8⟩) (by assumption) ?_
  case hy8 => (intro w hSw; (try dsimp only at hSw); obtain ⟨xa, xb, xc, xd, xe, xf, xg, xh, xi, xj⟩ := hSw.bx.all; obtain ⟨ya, yb, yc, yd, ye, yf, yg, yh, yi, yj⟩ := hSw.by_.all; obtain ⟨za, zb, zc, zd, ze, zf, zg, zh, zi, zj⟩ := hSw.bs.all; go_simp; try with_reducible rfl)
  try simp only [Act.put, lqA, lqB, lqC, lqD, lqE, lqF]
  refine wpAnyG_take (i := 9) (v := ?_) rfl (by kernel_rfl) (by kernel_rfl) (by kernel_rfl) (by kernel_rfl) (fun _ _ _ h => h) (Or.inl ⟨by kernel_rfl, ?hy9⟩) (by assumption) ?_
  case hy9 => (intro w hSw; (try dsimp only at hSw); obtain ⟨xa, xb, xc, xd, xe, xf, xg, xh, xi, xj⟩ := hSw.bx.all; obtain ⟨ya, yb, yc, yd, ye, yf, yg, yh, yi, yj⟩ := hSw.by_.all; obtain ⟨za, zb, zc, zd, ze, zf, zg, zh, zi, zj⟩ := hSw.bs.all; go_simp; try with_reducible rfl)
  try simp only [Act.put, lqA, lqB, lqC, lqD, lqE, lqF]
  refine wpAnyG_ready (rs := [4, 10]) (by kernel_rfl) (by simp) ?_
  refine AllReadyG.cons rfl (fun K hK => ?_) ?_
  ·have hb := bel_new W0 (.cells #[.slice x.dm.a x.dm.n x.dm.c, .slice y.dm.a y.dm.n y.dm.c] 55)
   have hM := hHeld.on hb
   have hk := bk_new W0 #[.slice x.dm.a x.dm.n x.dm.c, .slice y.dm.a y.dm.n y.dm.c] 55
   have L4 := hid (rdl_two ((HX.out.dm.on hHeld.bel).on hb) ((HY.out.dm.on hHeld.bel).on hb) hk)
   try replace L10 := hid (L10.out.on hb)
   go_simp
   refine hK.out _ _ hM (fun _ => ?_)
   clear hK K hHeld hk
   generalize W0.alloc (.cells #[.slice x.dm.a x.dm.n x.dm.c, .slice y.dm.a y.dm.n y.dm.c] 55) = W4 at *
   have hHeld := hM
   clear hM hb
   try simp only [Act.put, lqA, lqB, lqC, lqD, lqE, lqF]
   refine wpAnyG_ready (rs := [5, 10]) (by kernel_rfl) (by simp) ?_
   refine AllReadyG.cons rfl (fun K hK => ?_) ?_
   ·have hlt := hHeld.lt
    go_simp
    go_wp2_with fail
    refine (joined4_two hlt L4.out HN2.out).mono ?_
    rintro e W5 ⟨s5, rfl, hl5, hF5, hb⟩
    have R5 := hid hF5
    have E5 := hid hl5
    clear hF5 hl5
    try replace L10 := hid (L10.out.on hb)
    have hM := hHeld.on hb
    refine hK.out _ _ hM (fun _ => ?_)
    clear hK K hHeld hlt hb
    have hHeld := hM
    clear hM
    try simp only [Act.put, lqA, lqB, lqC, lqD, lqE, lqF]
    refine wpAnyG_take (i := 12) (v := ?_) rfl (by kernel_rfl) (by kernel_rfl) (by kernel_rfl) (by kernel_rfl) (fun _ _ _ h => h) (Or.inl ⟨by kernel_rfl, ?hy12⟩) (by assumption) ?_
    case hy12 => (intro w hSw; (try dsimp only at hSw); obtain ⟨xa, xb, xc, xd, xe, xf, xg, xh, xi, xj⟩ := hSw.bx.all; obtain ⟨ya, yb, yc, yd, ye, yf, yg, yh, yi, yj⟩ := hSw.by_.all; obtain ⟨za, zb, zc, zd, ze, zf, zg, zh, zi, zj⟩ := hSw.bs.all; go_simp; try with_reducible rfl)
    try simp only [Act.put, lqA, lqB, lqC, lqD, lqE, lqF]
    refine wpAnyG_ready (rs := [10]) (by kernel_rfl) (by simp) ?_
    refine AllReadyG.cons rfl (fun K hK => ?_) AllReadyG.nil
    have hb := bel_new W5 (.cells #[.slice x.fr.a x.fr.n x.fr.c, .slice y.fr.a y.fr.n y.fr.c] 63)
    have hM := hHeld.on hb
    have hk := bk_new W5 #[.slice x.fr.a x.fr.n x.fr.c, .slice y.fr.a y.fr.n y.fr.c] 63
    have L10 := hid (rdl_two ((HX.out.fr.on hHeld.bel).on hb) ((HY.out.fr.on hHeld.bel).on hb) hk)
    try replace L4 := hid (L4.out.on hb)
    try replace R5 := hid (R5.out.on hb)
    go_simp
    refine hK.out _ _ hM (fun _ => ?_)
    clear hK K hHeld hk
    generalize W5.alloc (.cells #[.slice x.fr.a x.fr.n x.fr.c, .slice y.fr.a y.fr.n y.fr.c] 63) = W10 at *
    have hHeld := hM
    clear hM hb
    try simp only [Act.put, lqA, lqB, lqC, lqD, lqE, lqF]
    refine wpAnyG_ready (rs := [11]) (by kernel_rfl) (by simp) ?_
    refine AllReadyG.cons rfl (fun K hK => ?_) AllReadyG.nil
    have hlt := hHeld.lt
    go_simp
    go_wp2_with fail
    refine (joined1_two hlt L10.out HN3.out).mono ?_
    rintro e W11 ⟨s11, rfl, hl11, hF11, hb⟩
    have R11 := hid hF11
    have E11 := hid hl11
    clear hF11 hl11
    try replace R5 := hid (R5.out.on hb)
    have hM := hHeld.on hb
    refine hK.out _ _ hM (fun _ => ?_)
    clear hK K hHeld hlt hb
    have hHeld := hM
    clear hM
    try simp only [Act.put, lqA, lqB, lqC, lqD, lqE, lqF]
    have hG := hHeld
    clear hHeld
    have hHeld : True := trivial
    refine wpAnyG_gateOp rfl (by kernel_rfl) (fun K hK => ?_)
    obtain ⟨za, zb, zc, zd, ze, zf, zg, zh, zi, zj⟩ := hG.bs.all
    have fz := hG.bs.fz
    have hG2 := hG.st ({ s3 with dm := s5 }) 2 (.slice s5.a s5.n s5.c) rfl
    try replace R5 := hid (R5.out.st (q := w.heap.size + 1 + 1 + 1) (Nat.le_refl _) 2 (.slice s5.a s5.n s5.c))
    try replace R11 := hid (R11.out.st (q := w.heap.size + 1 + 1 + 1) (Nat.le_refl _) 2 (.slice s5.a s5.n s5.c))
    go_simp
    refine hK.out _ _ trivial (fun _ => ?_)
    clear hK K hG fz za zb zc zd ze zf zg zh zi zj
    generalize W11.setCell ⟨w.heap.size + 1 + 1 + 1, 2, none⟩ (.slice s5.a s5.n s5.c) = W13 at *
    have hG := hG2
    clear hG2
    try simp only [Act.put, lqA, lqB, lqC, lqD, lqE, lqF]
    refine wpAnyH_take (i := 14) (v := ?_) rfl (by kernel_rfl) (by kernel_rfl) (by kernel_rfl) (fun _ _ _ h => h) (Or.inl ⟨by kernel_rfl, ?hy14⟩) (by assumption) ?_
    case hy14 => (intro w hSw; (try dsimp only at hSw); go_simp; try with_reducible rfl)
    try simp only [Act.put, lqA, lqB, lqC, lqD, lqE, lqF]
    refine wpAnyH_ready (rs := [15]) (by kernel_rfl) (by simp) ?_
    refine AllReadyH.cons rfl (fun K hK => ?_) AllReadyH.nil
    obtain ⟨za, zb, zc, zd, ze, zf, zg, zh, zi, zj⟩ := hG.bs.all
    have fz := hG.bs.fz
    have hG2 := hG.st ({ s3 with dm := s5, fr := s11 }) 3 (.slice s11.a s11.n s11.c) rfl
    try replace R5 := hid (R5.out.st (q := w.heap.size + 1 + 1 + 1) (Nat.le_refl _) 3 (.slice s11.a s11.n s11.c))
    try replace R11 := hid (R11.out.st (q := w.heap.size + 1 + 1 + 1) (Nat.le_refl _) 3 (.slice s11.a s11.n s11.c))
    go_simp
    refine hK.out _ _ trivial (fun _ => ?_)
    clear hK K hG fz za zb zc zd ze zf zg zh zi zj
    generalize W13.setCell ⟨w.heap.size + 1 + 1 + 1, 3, none⟩ (.slice s11.a s11.n s11.c) = W15 at *
    have hG := hG2
    clear hG2
    try simp only [Act.put, lqA, lqB, lqC, lqD, lqE, lqF]
    refine wpAnyH_done (by kernel_rfl) ?_ _
    go_wp2_with fail
    go_meet
    exact ⟨s5, s11, hG, E5.out, E11.out, R5.out, R11.out⟩
   refine AllReadyG.cons rfl (fun K hK => ?_) ?_
   ·have hb := bel_new W4 (.cells #[.slice x.fr.a x.fr.n x.fr.c, .slice y.fr.a y.fr.n y.fr.c] 63)
    have hM := hHeld.on hb
    have hk := bk_new W4 #[.slice x.fr.a x.fr.n x.fr.c, .slice y.fr.a y.fr.n y.fr.c] 63
    have L10 := hid (rdl_two ((HX.out.fr.on hHeld.bel).on hb) ((HY.out.fr.on hHeld.bel).on hb) hk)
    try replace L4 := hid (L4.out.on hb)
    try replace R5 := hid (R5.out.on hb)
    go_simp
    refine hK.out _ _ hM (fun _ => ?_)
    clear hK K hHeld hk
    generalize W4.alloc (.cells #[.slice x.fr.a x.fr.n x.fr.c, .slice y.fr.a y.fr.n y.fr.c] 63) = W10 at *
    have hHeld := hM
    clear hM hb
    try simp only [Act.put, lqA, lqB, lqC, lqD, lqE, lqF]
    refine wpAnyG_ready (rs := [5]) (by kernel_rfl) (by simp) ?_
    refine AllReadyG.cons rfl (fun K hK => ?_) AllReadyG.nil
    have hlt := hHeld.lt
    go_simp
    go_wp2_with fail
    refine (joined4_two hlt L4.out HN2.out).mono ?_
    rintro e W5 ⟨s5, rfl, hl5, hF5, hb⟩
    have R5 := hid hF5
    have E5 := hid hl5
    clear hF5 hl5
    try replace L10 := hid (L10.out.on hb)
    have hM := hHeld.on hb
    refine hK.out _ _ hM (fun _ => ?_)
    clear hK K hHeld hlt hb
    have hHeld := hM
    clear hM
    try simp only [Act.put, lqA, lqB, lqC, lqD, lqE, lqF]
    refine wpAnyG_take (i := 12) (v := ?_) rfl (by kernel_rfl) (by kernel_rfl) (by kernel_rfl) (by kernel_rfl) (fun _ _ _ h => h) (Or.inl ⟨by kernel_rfl, ?hy12⟩) (by assumption) ?_
    case hy12 => (intro w hSw; (try dsimp only at hSw); obtain ⟨xa, xb, xc, xd, xe, xf, xg, xh, xi, xj⟩ := hSw.bx.all; obtain ⟨ya, yb, yc, yd, ye, yf, yg, yh, yi, yj⟩ := hSw.by_.all; obtain ⟨za, zb, zc, zd, ze, zf, zg, zh, zi, zj⟩ := hSw.bs.all; go_simp; try with_reducible rfl)
    try simp only [Act.put, lqA, lqB, lqC, lqD, lqE, lqF]
    refine wpAnyG_ready (rs := [11]) (by kernel_rfl) (by simp) ?_
    refine AllReadyG.cons rfl (fun K hK => ?_) AllReadyG.nil
    have hlt := hHeld.lt
    go_simp
    go_wp2_with fail
    refine (joined1_two hlt L10.out HN3.out).mono ?_
    rintro e W11 ⟨s11, rfl, hl11, hF11, hb⟩
    have R11 := hid hF11
    have E11 := hid hl11
    clear hF11 hl11
    try replace R5 := hid (R5.out.on hb)
    have hM := hHeld.on hb
    refine hK.out _ _ hM (fun _ => ?_)
    clear hK K hHeld hlt hb
    have hHeld := hM
    clear hM
    try simp only [Act.put, lqA, lqB, lqC, lqD, lqE, lqF]
    have hG := hHeld
    clear hHeld
    have hHeld : True := trivial
    refine wpAnyG_gateOp rfl (by kernel_rfl) (fun K hK => ?_)
    obtain ⟨za, zb, zc, zd, ze, zf, zg, zh, zi, zj⟩ := hG.bs.all
    have fz := hG.bs.fz
    have hG2 := hG.st ({ s3 with dm := s5 }) 2 (.slice s5.a s5.n s5.c) rfl
    try replace R5 := hid (R5.out.st (q := w.heap.size + 1 + 1 + 1) (Nat.le_refl _) 2 (.slice s5.a s5.n s5.c))
    try replace R11 := hid (R11.out.st (q := w.heap.size + 1 + 1 + 1) (Nat.le_refl _) 2 (.slice s5.a s5.n s5.c))
    go_simp
    refine hK.out _ _ trivial (fun _ => ?_)
    clear hK K hG fz za zb zc zd ze zf zg zh zi zj
    generalize W11.setCell ⟨w.heap.size + 1 + 1 + 1, 2, none⟩ (.slice s5.a s5.n s5.c) = W13 at *
    have hG := hG2
    clear hG2
    try simp only [Act.put, lqA, lqB, lqC, lqD, lqE, lqF]
    refine wpAnyH_take (i := 14) (v := ?_) rfl (by kernel_rfl) (by kernel_rfl) (by kernel_rfl) (fun _ _ _ h => h) (Or.inl ⟨by kernel_rfl, ?hy14⟩) (by assumption) ?_
    case hy14 => (intro w hSw; (try dsimp only at hSw); go_simp; try with_reducible rfl)
    try simp only [Act.put, lqA, lqB, lqC, lqD, lqE, lqF]
    refine wpAnyH_ready (rs := [15]) (by kernel_rfl) (by simp) ?_
    refine AllReadyH.cons rfl (fun K hK => ?_) AllReadyH.nil
    obtain ⟨za, zb, zc, zd, ze, zf, zg, zh, zi, zj⟩ := hG.bs.all
    have fz := hG.bs.fz
    have hG2 := hG.st ({ s3 with dm := s5, fr := s11 }) 3 (.slice s11.a s11.n s11.c) rfl
    try replace R5 := hid (R5.out.st (q := w.heap.size + 1 + 1 + 1) (Nat.le_refl _) 3 (.slice s11.a s11.n s11.c))
    try replace R11 := hid (R11.out.st (q := w.heap.size + 1 + 1 + 1) (Nat.le_refl _) 3 (.slice s11.a s11.n s11.c))
    go_simp
    refine hK.out _ _ trivial (fun _ => ?_)
    clear hK K hG fz za zb zc zd ze zf zg zh zi zj
    generalize W13.setCell ⟨w.heap.size + 1 + 1 + 1, 3, none⟩ (.slice s11.a s11.n s11.c) = W15 at *
    have hG := hG2
    clear hG2
    try simp only [Act.put, lqA, lqB, lqC, lqD, lqE, lqF]
    refine wpAnyH_done (by kernel_rfl) ?_ _
    go_wp2_with fail
    go_meet
    exact ⟨s5, s11, hG, E5.out, E11.out, R5.out, R11.out⟩
   exact AllReadyG.nil
  refine AllReadyG.cons rfl (fun K hK => ?_) ?_
  ·have hb := bel_new W0 (.cells #[.slice x.fr.a x.fr.n x.fr.c, .slice y.fr.a y.fr.n y.fr.c] 63)
   have hM := hHeld.on hb
   have hk := bk_new W0 #[.slice x.fr.a x.fr.n x.fr.c, .slice y.fr.a y.fr.n y.fr.c] 63
   have L10 := hid (rdl_two ((HX.out.fr.on hHeld.bel).on hb) ((HY.out.fr.on hHeld.bel).on hb) hk)
   try replace L4 := hid (L4.out.on hb)
   try replace R5 := hid (R5.out.on hb)
   go_simp
   refine hK.out _ _ hM (fun _ => ?_)
   clear hK K hHeld hk
   generalize W0.alloc (.cells #[.slice x.fr.a x.fr.n x.fr.c, .slice y.fr.a y.fr.n y.fr.c] 63) = W10 at *
   have hHeld := hM
   clear hM hb
   try simp only [Act.put, lqA, lqB, lqC, lqD, lqE, lqF]
   refine wpAnyG_ready (rs := [4]) (by kernel_rfl) (by simp) ?_
   refine AllReadyG.cons rfl (fun K hK => ?_) AllReadyG.nil
   have hb := bel_new W10 (.cells #[.slice x.dm.a x.dm.n x.dm.c, .slice y.dm.a y.dm.n y.dm.c] 55)
   have hM := hHeld.on hb
   have hk := bk_new W10 #[.slice x.dm.a x.dm.n x.dm.c, .slice y.dm.a y.dm.n y.dm.c] 55
   have L4 := hid (rdl_two ((HX.out.dm.on hHeld.bel).on hb) ((HY.out.dm.on hHeld.bel).on hb) hk)
   try replace L10 := hid (L10.out.on hb)
   go_simp
   refine hK.out _ _ hM (fun _ => ?_)
   clear hK K hHeld hk
   generalize W10.alloc (.cells #[.slice x.dm.a x.dm.n x.dm.c, .slice y.dm.a y.dm.n y.dm.c] 55) = W4 at *
   have hHeld := hM
   clear hM hb
   try simp only [Act.put, lqA, lqB, lqC, lqD, lqE, lqF]
   refine wpAnyG_ready (rs := [5]) (by kernel_rfl) (by simp) ?_
   refine AllReadyG.cons rfl (fun K hK => ?_) AllReadyG.nil
   have hlt := hHeld.lt
   go_simp
   go_wp2_with fail
   refine (joined4_two hlt L4.out HN2.out).mono ?_
   rintro e W5 ⟨s5, rfl, hl5, hF5, hb⟩
   have R5 := hid hF5
   have E5 := hid hl5
   clear hF5 hl5
   try replace L10 := hid (L10.out.on hb)
   have hM := hHeld.on hb
   refine hK.out _ _ hM (fun _ => ?_)
   clear hK K hHeld hlt hb
   have hHeld := hM
   clear hM
   try simp only [Act.put, lqA, lqB, lqC, lqD, lqE, lqF]
   refine wpAnyG_take (i := 12) (v := ?_) rfl (by kernel_rfl) (by kernel_rfl) (by kernel_rfl) (by kernel_rfl) (fun _ _ _ h => h) (Or.inl ⟨by kernel_rfl, ?hy12⟩) (by assumption) ?_
   case hy12 => (intro w hSw; (try dsimp only at hSw); obtain ⟨xa, xb, xc, xd, xe, xf, xg, xh, xi, xj⟩ := hSw.bx.all; obtain ⟨ya, yb, yc, yd, ye, yf, yg, yh, yi, yj⟩ := hSw.by_.all; obtain ⟨za, zb, zc, zd, ze, zf, zg, zh, zi, zj⟩ := hSw.bs.all; go_simp; try with_reducible rfl)
   try simp only [Act.put, lqA, lqB, lqC, lqD, lqE, lqF]
   refine wpAnyG_ready (rs := [11]) (by kernel_rfl) (by simp) ?_
   refine AllReadyG.cons rfl (fun K hK => ?_) AllReadyG.nil
   have hlt := hHeld.lt
   go_simp
   go_wp2_with fail
   refine (joined1_two hlt L10.out HN3.out).mono ?_
   rintro e W11 ⟨s11, rfl, hl11, hF11, hb⟩
   have R11 := hid hF11
   have E11 := hid hl11
   clear hF11 hl11
   try replace R5 := hid (R5.out.on hb)
   have hM := hHeld.on hb
   refine hK.out _ _ hM (fun _ => ?_)
   clear hK K hHeld hlt hb
   have hHeld := hM
   clear hM
   try simp only [Act.put, lqA, lqB, lqC, lqD, lqE, lqF]
   have hG := hHeld
   clear hHeld
   have hHeld : True := trivial
   refine wpAnyG_gateOp rfl (by kernel_rfl) (fun K hK => ?_)
   obtain ⟨za, zb, zc, zd, ze, zf, zg, zh, zi, zj⟩ := hG.bs.all
   have fz := hG.bs.fz
   have hG2 := hG.st ({ s3 with dm := s5 }) 2 (.slice s5.a s5.n s5.c) rfl
   try replace R5 := hid (R5.out.st (q := w.heap.size + 1 + 1 + 1) (Nat.le_refl _) 2 (.slice s5.a s5.n s5.c))
   try replace R11 := hid (R11.out.st (q := w.heap.size + 1 + 1 + 1) (Nat.le_refl _) 2 (.slice s5.a s5.n s5.c))
   go_simp
   refine hK.out _ _ trivial (fun _ => ?_)
   clear hK K hG fz za zb zc zd ze zf zg zh zi zj
   generalize W11.setCell ⟨w.heap.size + 1 + 1 + 1, 2, none⟩ (.slice s5.a s5.n s5.c) = W13 at *
   have hG := hG2
   clear hG2
   try simp only [Act.put, lqA, lqB, lqC, lqD, lqE, lqF]
   refine wpAnyH_take (i := 14) (v := ?_) rfl (by kernel_rfl) (by kernel_rfl) (by kernel_rfl) (fun _ _ _ h => h) (Or.inl ⟨by kernel_rfl, ?hy14⟩) (by assumption) ?_
   case hy14 => (intro w hSw; (try dsimp only at hSw); go_simp; try with_reducible rfl)
   try simp only [Act.put, lqA, lqB, lqC, lqD, lqE, lqF]
   refine wpAnyH_ready (rs := [15]) (by kernel_rfl) (by simp) ?_
   refine AllReadyH.cons rfl (fun K hK => ?_) AllReadyH.nil
   obtain ⟨za, zb, zc, zd, ze, zf, zg, zh, zi, zj⟩ := hG.bs.all
   have fz := hG.bs.fz
   have hG2 := hG.st ({ s3 with dm := s5, fr := s11 }) 3 (.slice s11.a s11.n s11.c) rfl
   try replace R5 := hid (R5.out.st (q := w.heap.size + 1 + 1 + 1) (Nat.le_refl _) 3 (.slice s11.a s11.n s11.c))
   try replace R11 := hid (R11.out.st (q := w.heap.size + 1 + 1 + 1) (Nat.le_refl _) 3 (.slice s11.a s11.n s11.c))
   go_simp
   refine hK.out _ _ trivial (fun _ => ?_)
   clear hK K hG fz za zb zc zd ze zf zg zh zi zj
   generalize W13.setCell ⟨w.heap.size + 1 + 1 + 1, 3, none⟩ (.slice s11.a s11.n s11.c) = W15 at *
   have hG := hG2
   clear hG2
   try simp only [Act.put, lqA, lqB, lqC, lqD, lqE, lqF]
   refine wpAnyH_done (by kernel_rfl) ?_ _
   go_wp2_with fail
   go_meet
   exact ⟨s5, s11, hG, E5.out, E11.out, R5.out, R11.out⟩
  exact AllReadyG.nil
 obtain ⟨s5, s11, hM, e5, e11, q2, q3⟩ := hcut
 obtain ⟨s4, hs4⟩ : ∃ s : Sx, s = { s3 with dm := s5, fr := s11 } := ⟨_, rfl⟩
 rw [← hs4] at hM
 have HS4 := hid hs4
 clear HM
 have HM := hid hM
 have E5 := hid e5
 have E11 := hid e11
 have P2 := hid q2
 have P3 := hid q3
 have HRG4 : Hid (RdM 4 w s4.rg.a s4.rg.n s4.rg.c s4.rg.l ∧ s4.rg.l.length ≤ 1000000) := by rw [Hid, hs4]; exact HRG.out
 have HOD4 : Hid (RdM 1 w s4.od.a s4.od.n s4.od.c s4.od.l ∧ s4.od.l.length ≤ 1000000) := by rw [Hid, hs4]; exact HOD.out
 clear hM hs4 e5 e11 q2 q3 HRG HOD
 go_upto_region 9 with fail
 go_cut [] (fun wc => ∃ t3 t7 : Sl, Mi w x y { s4 with rg := t3, od := t7 } wc ∧ t3.l = s4.rg.l ∧ t7.l = s4.od.l ∧ RdF 4 wc (w.heap.size + 1 + 1 + 1) t3 ∧ RdF 1 wc (w.heap.size + 1 + 1 + 1) t7 ∧ RdF 4 wc (w.heap.size + 1 + 1 + 1) s5 ∧ RdF 1 wc (w.heap.size + 1 + 1 + 1) s11)
 case first =>
  have Q2 := hid (P2.out.on (Below.refl _ _).drew)
  have Q3 := hid (P3.out.on (Below.refl _ _).drew)
  refine wp_region_gate_drew (g := 9) (S := Mi w x y s4) (by kernel_rfl) ?hh (fun hHeld => ?_)
  case hh => exact (HM.out.drew)
  generalize wc.drew = W0 at hHeld Q2 Q3 ⊢
  try dsimp only at hHeld
  refine wpAnyG_take (i := 0) (v := ?_) rfl (by kernel_rfl) (by kernel_rfl) (by kernel_rfl) (by kernel_rfl) (fun _ _ _ h => h) (Or.inl ⟨by kernel_rfl, ?hy0⟩) (by assumption) ?_
  case hy0 => (intro w hSw; (try dsimp only at hSw); obtain ⟨xa, xb, xc, xd, xe, xf, xg, xh, xi, xj⟩ := hSw.bx.all; obtain ⟨ya, yb, yc, yd, ye, yf, yg, yh, yi, yj⟩ := hSw.by_.all; obtain ⟨za, zb, zc, zd, ze, zf, zg, zh, zi, zj⟩ := hSw.bs.all; go_simp; try with_reducible rfl)
  try simp only [Act.put, lqA, lqB, lqD, lqE, lqF]
  refine wpAnyG_take (i := 1) (v := ?_) rfl (by kernel_rfl) (by kernel_rfl) (by kernel_rfl) (by kernel_rfl) (fun _ _ _ h => h) (Or.inl ⟨by kernel_rfl, ?hy1⟩) (by assumption) ?_
  case hy1 => (intro w hSw; (try dsimp only at hSw); obtain ⟨xa, xb, xc, xd, xe, xf, xg, xh, xi, xj⟩ := hSw.bx.all; obtain ⟨ya, yb, yc, yd, ye, yf, yg, yh, yi, yj⟩ := hSw.by_.all; obtain ⟨za, zb, zc, zd, ze, zf, zg, zh, zi, zj⟩ := hSw.bs.all; go_simp; try with_reducible rfl)
  try simp only [Act.put, lqA, lqB, lqC, lqD, lqE, lqF]
  refine wpAnyG_take (i := 4) (v := ?_) rfl (by kernel_rfl) (by kernel_rfl) (by kernel_rfl) (by kernel_rfl) (fun _ _ _ h => h) (Or.inl ⟨by kernel_rfl, ?hy4⟩) (by assumption) ?_
  case hy4 => (intro w hSw; (try dsimp only at hSw); obtain ⟨xa, xb, xc, xd, xe, xf, xg, xh, xi, xj⟩ := hSw.bx.all; obtain ⟨ya, yb, yc, yd, ye, yf, yg, yh, yi, yj⟩ := hSw.by_.all; obtain ⟨za, zb, zc, zd, ze, zf, zg, zh, zi, zj⟩ := hSw.bs.all; go_simp; try with_reducible rfl)
  try simp only [Act.put, lqA, lqB, lqC, lqD, lqE, lqF]
  refine wpAnyG_take (i := 5) (v := ?_) rfl (by kernel_rfl) (by kernel_rfl) (by kernel_rfl) (by kernel_rfl) (fun _ _ _ h => h) (Or.inl ⟨by kernel_rfl, ?hy5⟩) (by assumption) ?_
  case hy5 => (intro w hSw; (try dsimp only at hSw); obtain ⟨xa, xb, xc, xd, xe, xf, xg, xh, xi, xj⟩ := hSw.bx.all; obtain ⟨ya, yb, yc, yd, ye, yf, yg, yh, yi, yj⟩ := hSw.by_.all; obtain ⟨za, zb, zc, zd, ze, zf, zg, zh, zi, zj⟩ := hSw.bs.all; go_simp; try with_reducible rfl)
  try simp only [Act.put, lqA, lqB, lqC, lqD, lqE, lqF]
  refine wpAnyG_ready (rs := [2, 6]) (by kernel_rfl) (by simp) ?_
  refine AllReadyG.cons rfl (fun K hK => ?_) ?_
  ·have hb := bel_new W0 (.cells #[.slice s4.rg.a s4.rg.n s4.rg.c] 55)
   have hM := hHeld.on hb
   have hk := bk_new W0 #[.slice s4.rg.a s4.rg.n s4.rg.c] 55
   have L2 := hid (rdl_one ((HRG4.out.1.on hHeld.bel).on hb) hk)
   try replace L6 := hid (L6.out.on hb)
   try replace Q2 := hid (Q2.out.on hb)
   try replace Q3 := hid (Q3.out.on hb)
   go_simp
   refine hK.out _ _ hM (fun _ => ?_)
   clear hK K hHeld hk
   generalize W0.alloc (.cells #[.slice s4.rg.a s4.rg.n s4.rg.c] 55) = W2 at *
   have hHeld := hM
   clear hM hb
   try simp only [Act.put, lqA, lqB, lqC, lqD, lqE, lqF]
   refine wpAnyG_ready (rs := [3, 6]) (by kernel_rfl) (by simp) ?_
   refine AllReadyG.cons rfl (fun K hK => ?_) ?_
   ·have hlt := hHeld.lt
    go_simp
    go_wp2_with fail
    refine (joined4_one hlt L2.out HRG4.out.2).mono ?_
    rintro e W3 ⟨t3, rfl, hl3, hF3, hb⟩
    have R3 := hid hF3
    have E3 := hid hl3
    clear hF3 hl3
    try replace L6 := hid (L6.out.on hb)
    try replace Q2 := hid (Q2.out.on hb)
    try replace Q3 := hid (Q3.out.on hb)
    have hM := hHeld.on hb
    refine hK.out _ _ hM (fun _ => ?_)
    clear hK K hHeld hlt hb
    have hHeld := hM
    clear hM
    try simp only [Act.put, lqA, lqB, lqC, lqD, lqE, lqF]
    refine wpAnyG_take (i := 8) (v := ?_) rfl (by kernel_rfl) (by kernel_rfl) (by kernel_rfl) (by kernel_rfl) (fun _ _ _ h => h) (Or.inl ⟨by kernel_rfl, ?hy8⟩) (by assumption) ?_
    case hy8 => (intro w hSw; (try dsimp only at hSw); obtain ⟨xa, xb, xc, xd, xe, xf, xg, xh, xi, xj⟩ := hSw.bx.all; obtain ⟨ya, yb, yc, yd, ye, yf, yg, yh, yi, yj⟩ := hSw.by_.all; obtain ⟨za, zb, zc, zd, ze, zf, zg, zh, zi, zj⟩ := hSw.bs.all; go_simp; try with_reducible rfl)
    try simp only [Act.put, lqA, lqB, lqC, lqD, lqE, lqF]
    refine wpAnyG_ready (rs := [6]) (by kernel_rfl) (by simp) ?_
    refine AllReadyG.cons rfl (fun K hK => ?_) AllReadyG.nil
    have hb := bel_new W3 (.cells #[.slice s4.od.a s4.od.n s4.od.c] 63)
    have hM := hHeld.on hb
    have hk := bk_new W3 #[.slice s4.od.a s4.od.n s4.od.c] 63
    have L6 := hid (rdl_one ((HOD4.out.1.on hHeld.bel).on hb) hk)
    try replace L2 := hid (L2.out.on hb)
    try replace R3 := hid (R3.out.on hb)
    try replace Q2 := hid (Q2.out.on hb)
    try replace Q3 := hid (Q3.out.on hb)
    go_simp
    refine hK.out _ _ hM (fun _ => ?_)
    clear hK K hHeld hk
    generalize W3.alloc (.cells #[.slice s4.od.a s4.od.n s4.od.c] 63) = W6 at *
    have hHeld := hM
    clear hM hb
    try simp only [Act.put, lqA, lqB, lqC, lqD, lqE, lqF]
    refine wpAnyG_ready (rs := [7]) (by kernel_rfl) (by simp) ?_
    refine AllReadyG.cons rfl (fun K hK => ?_) AllReadyG.nil
    have hlt := hHeld.lt
    go_simp
    go_wp2_with fail
    refine (joined1_one hlt L6.out HOD4.out.2).mono ?_
    rintro e W7 ⟨t7, rfl, hl7, hF7, hb⟩
    have R7 := hid hF7
    have E7 := hid hl7
    clear hF7 hl7
    try replace R3 := hid (R3.out.on hb)
    try replace Q2 := hid (Q2.out.on hb)
    try replace Q3 := hid (Q3.out.on hb)
    have hM := hHeld.on hb
    refine hK.out _ _ hM (fun _ => ?_)
    clear hK K hHeld hlt hb
    have hHeld := hM
    clear hM
    try simp only [Act.put, lqA, lqB, lqC, lqD, lqE, lqF]
    have hG := hHeld
    clear hHeld
    have hHeld : True := trivial
    refine wpAnyG_gateOp rfl (by kernel_rfl) (fun K hK => ?_)
    obtain ⟨za, zb, zc, zd, ze, zf, zg, zh, zi, zj⟩ := hG.bs.all
    have fz := hG.bs.fz
    have hG2 := hG.st ({ s4 with rg := t3 }) 6 (.slice t3.a t3.n t3.c) rfl
    try replace R3 := hid (R3.out.st (q := w.heap.size + 1 + 1 + 1) (Nat.le_refl _) 6 (.slice t3.a t3.n t3.c))
    try replace R7 := hid (R7.out.st (q := w.heap.size + 1 + 1 + 1) (Nat.le_refl _) 6 (.slice t3.a t3.n t3.c))
    try replace Q2 := hid (Q2.out.st (q := w.heap.size + 1 + 1 + 1) (Nat.le_refl _) 6 (.slice t3.a t3.n t3.c))
    try replace Q3 := hid (Q3.out.st (q := w.heap.size + 1 + 1 + 1) (Nat.le_refl _) 6 (.slice t3.a t3.n t3.c))
    go_simp
    refine hK.out _ _ trivial (fun _ => ?_)
    clear hK K hG fz za zb zc zd ze zf zg zh zi zj
    generalize W7.setCell ⟨w.heap.size + 1 + 1 + 1, 6, none⟩ (.slice t3.a t3.n t3.c) = W9 at *
    have hG := hG2
    clear hG2
    try simp only [Act.put, lqA, lqB, lqC, lqD, lqE, lqF]
    refine wpAnyH_take (i := 10) (v := ?_) rfl (by kernel_rfl) (by kernel_rfl) (by kernel_rfl) (fun _ _ _ h => h) (Or.inl ⟨by kernel_rfl, ?hy10⟩) (by assumption) ?_
    case hy10 => (intro w hSw; (try dsimp only at hSw); go_simp; try with_reducible rfl)
    try simp only [Act.put, lqA, lqB, lqC, lqD, lqE, lqF]
    refine wpAnyH_ready (rs := [11]) (by kernel_rfl) (by simp) ?_
    refine AllReadyH.cons rfl (fun K hK => ?_) AllReadyH.nil
    obtain ⟨za, zb, zc, zd, ze, zf, zg, zh, zi, zj⟩ := hG.bs.all
    have fz := hG.bs.fz
    have hG2 := hG.st ({ s4 with rg := t3, od := t7 }) 8 (.slice t7.a t7.n t7.c) rfl
    try replace R3 := hid (R3.out.st (q := w.heap.size + 1 + 1 + 1) (Nat.le_refl _) 8 (.slice t7.a t7.n t7.c))
    try replace R7 := hid (R7.out.st (q := w.heap.size + 1 + 1 + 1) (Nat.le_refl _) 8 (.slice t7.a t7.n t7.c))
    try replace Q2 := hid (Q2.out.st (q := w.heap.size + 1 + 1 + 1) (Nat.le_refl _) 8 (.slice t7.a t7.n t7.c))
    try replace Q3 := hid (Q3.out.st (q := w.heap.size + 1 + 1 + 1) (Nat.le_refl _) 8 (.slice t7.a t7.n t7.c))
    go_simp
    refine hK.out _ _ trivial (fun _ => ?_)
    clear hK K hG fz za zb zc zd ze zf zg zh zi zj
    generalize W9.setCell ⟨w.heap.size + 1 + 1 + 1, 8, none⟩ (.slice t7.a t7.n t7.c) = W11 at *
    have hG := hG2
    clear hG2
    try simp only [Act.put, lqA, lqB, lqC, lqD, lqE, lqF]
    refine wpAnyH_done (by kernel_rfl) ?_ _
    go_wp2_with fail
    go_meet
    exact ⟨t3, t7, hG, E3.out, E7.out, R3.out, R7.out, Q2.out, Q3.out⟩
   refine AllReadyG.cons rfl (fun K hK => ?_) ?_
   ·have hb := bel_new W2 (.cells #[.slice s4.od.a s4.od.n s4.od.c] 63)
    have hM := hHeld.on hb
    have hk := bk_new W2 #[.slice s4.od.a s4.od.n s4.od.c] 63
    have L6 := hid (rdl_one ((HOD4.out.1.on hHeld.bel).on hb) hk)
    try replace L2 := hid (L2.out.on hb)
    try replace R3 := hid (R3.out.on hb)
    try replace Q2 := hid (Q2.out.on hb)
    try replace Q3 := hid (Q3.out.on hb)
    go_simp
    refine hK.out _ _ hM (fun _ => ?_)
    clear hK K hHeld hk
    generalize W2.alloc (.cells #[.slice s4.od.a s4.od.n s4.od.c] 63) = W6 at *
    have hHeld := hM
    clear hM hb
    try simp only [Act.put, lqA, lqB, lqC, lqD, lqE, lqF]
    refine wpAnyG_ready (rs := [3]) (by kernel_rfl) (by simp) ?_
    refine AllReadyG.cons rfl (fun K hK => ?_) AllReadyG.nil
    have hlt := hHeld.lt
    go_simp
    go_wp2_with fail
    refine (joined4_one hlt L2.out HRG4.out.2).mono ?_
    rintro e W3 ⟨t3, rfl, hl3, hF3, hb⟩
    have R3 := hid hF3
    have E3 := hid hl3
    clear hF3 hl3
    try replace L6 := hid (L6.out.on hb)
    try replace Q2 := hid (Q2.out.on hb)
    try replace Q3 := hid (Q3.out.on hb)
    have hM := hHeld.on hb
    refine hK.out _ _ hM (fun _ => ?_)
    clear hK K hHeld hlt hb
    have hHeld := hM
    clear hM
    try simp only [Act.put, lqA, lqB, lqC, lqD, lqE, lqF]
    refine wpAnyG_take (i := 8) (v := ?_) rfl (by kernel_rfl) (by kernel_rfl) (by kernel_rfl) (by kernel_rfl) (fun _ _ _ h => h) (Or.inl ⟨by kernel_rfl, ?hy8⟩) (by assumption) ?_
    case hy8 => (intro w hSw; (try dsimp only at hSw); obtain ⟨xa, xb, xc, xd, xe, xf, xg, xh, xi, xj⟩ := hSw.bx.all; obtain ⟨ya, yb, yc, yd, ye, yf, yg, yh, yi, yj⟩ := hSw.by_.all; obtain ⟨za, zb, zc, zd, ze, zf, zg, zh, zi, zj⟩ := hSw.bs.all; go_simp; try with_reducible rfl)
    try simp only [Act.put, lqA, lqB, lqC, lqD, lqE, lqF]
    refine wpAnyG_ready (rs := [7]) (by kernel_rfl) (by simp) ?_
    refine AllReadyG.cons rfl (fun K hK => ?_) AllReadyG.nil
    have hlt := hHeld.lt
    go_simp
    go_wp2_with fail
    refine (joined1_one hlt L6.out HOD4.out.2).mono ?_
    rintro e W7 ⟨t7, rfl, hl7, hF7, hb⟩
    have R7 := hid hF7
    have E7 := hid hl7
    clear hF7 hl7
    try replace R3 := hid (R3.out.on hb)
    try replace Q2 := hid (Q2.out.on hb)
    try replace Q3 := hid (Q3.out.on hb)
    have hM := hHeld.on hb
    refine hK.out _ _ hM (fun _ => ?_)
    clear hK K hHeld hlt hb
    have hHeld := hM
    clear hM
    try simp only [Act.put, lqA, lqB, lqC, lqD, lqE, lqF]
    have hG := hHeld
    clear hHeld
    have hHeld : True := trivial
    refine wpAnyG_gateOp rfl (by kernel_rfl) (fun K hK => ?_)
    obtain ⟨za, zb, zc, zd, ze, zf, zg, zh, zi, zj⟩ := hG.bs.all
    have fz := hG.bs.fz
    have hG2 := hG.st ({ s4 with rg := t3 }) 6 (.slice t3.a t3.n t3.c) rfl
    try replace R3 := hid (R3.out.st (q := w.heap.size + 1 + 1 + 1) (Nat.le_refl _) 6 (.slice t3.a t3.n t3.c))
    try replace R7 := hid (R7.out.st (q := w.heap.size + 1 + 1 + 1) (Nat.le_refl _) 6 (.slice t3.a t3.n t3.c))
    try replace Q2 := hid (Q2.out.st (q := w.heap.size + 1 + 1 + 1) (Nat.le_refl _) 6 (.slice t3.a t3.n t3.c))
    try replace Q3 := hid (Q3.out.st (q := w.heap.size + 1 + 1 + 1) (Nat.le_refl _) 6 (.slice t3.a t3.n t3.c))
    go_simp
    refine hK.out _ _ trivial (fun _ => ?_)
    clear hK K hG fz za zb zc zd ze zf zg zh zi zj
    generalize W7.setCell ⟨w.heap.size + 1 + 1 + 1, 6, none⟩ (.slice t3.a t3.n t3.c) = W9 at *
    have hG := hG2
    clear hG2
    try simp only [Act.put, lqA, lqB, lqC, lqD, lqE, lqF]
    refine wpAnyH_take (i := 10) (v := ?_) rfl (by kernel_rfl) (by kernel_rfl) (by kernel_rfl) (fun _ _ _ h => h) (Or.inl ⟨by kernel_rfl, ?hy10⟩) (by assumption) ?_
    case hy10 => (intro w hSw; (try dsimp only at hSw); go_simp; try with_reducible rfl)
    try simp only [Act.put, lqA, lqB, lqC, lqD, lqE, lqF]
    refine wpAnyH_ready (rs := [11]) (by kernel_rfl) (by simp) ?_
    refine AllReadyH.cons rfl (fun K hK => ?_) AllReadyH.nil
    obtain ⟨za, zb, zc, zd, ze, zf, zg, zh, zi, zj⟩ := hG.bs.all
    have fz := hG.bs.fz
    have hG2 := hG.st ({ s4 with rg := t3, od := t7 }) 8 (.slice t7.a t7.n t7.c) rfl
    try replace R3 := hid (R3.out.st (q := w.heap.size + 1 + 1 + 1) (Nat.le_refl _) 8 (.slice t7.a t7.n t7.c))
    try replace R7 := hid (R7.out.st (q := w.heap.size + 1 + 1 + 1) (Nat.le_refl _) 8 (.slice t7.a t7.n t7.c))
    try replace Q2 := hid (Q2.out.st (q := w.heap.size + 1 + 1 + 1) (Nat.le_refl _) 8 (.slice t7.a t7.n t7.c))
    try replace Q3 := hid (Q3.out.st (q := w.heap.size + 1 + 1 + 1) (Nat.le_refl _) 8 (.slice t7.a t7.n t7.c))
    go_simp
    refine hK.out _ _ trivial (fun _ => ?_)
    clear hK K hG fz za zb zc zd ze zf zg zh zi zj
    generalize W9.setCell ⟨w.heap.size + 1 + 1 + 1, 8, none⟩ (.slice t7.a t7.n t7.c) = W11 at *
    have hG := hG2
    clear hG2
    try simp only [Act.put, lqA, lqB, lqC, lqD, lqE, lqF]
    refine wpAnyH_done (by kernel_rfl) ?_ _
    go_wp2_with fail
    go_meet
    exact ⟨t3, t7, hG, E3.out, E7.out, R3.out, R7.out, Q2.out, Q3.out⟩
   exact AllReadyG.nil
  refine AllReadyG.cons rfl (fun K hK => ?_) ?_
  ·have hb := bel_new W0 (.cells #[.slice s4.od.a s4.od.n s4.od.c] 63)
   have hM := hHeld.on hb
   have hk := bk_new W0 #[.slice s4.od.a s4.od.n s4.od.c] 63
   have L6 := hid (rdl_one ((HOD4.out.1.on hHeld.bel).on hb) hk)
   try replace L2 := hid (L2.out.on hb)
   try replace R3 := hid (R3.out.on hb)
   try replace Q2 := hid (Q2.out.on hb)
   try replace Q3 := hid (Q3.out.on hb)
   go_simp
   refine hK.out _ _ hM (fun _ => ?_)
   clear hK K hHeld hk
   generalize W0.alloc (.cells #[.slice s4.od.a s4.od.n s4.od.c] 63) = W6 at *
   have hHeld := hM
   clear hM hb
   try simp only [Act.put, lqA, lqB, lqC, lqD, lqE, lqF]
   refine wpAnyG_ready (rs := [2]) (by kernel_rfl) (by simp) ?_
   refine AllReadyG.cons rfl (fun K hK => ?_) AllReadyG.nil
   have hb := bel_new W6 (.cells #[.slice s4.rg.a s4.rg.n s4.rg.c] 55)
   have hM := hHeld.on hb
   have hk := bk_new W6 #[.slice s4.rg.a s4.rg.n s4.rg.c] 55
   have L2 := hid (rdl_one ((HRG4.out.1.on hHeld.bel).on hb) hk)
   try replace L6 := hid (L6.out.on hb)
   try replace Q2 := hid (Q2.out.on hb)
   try replace Q3 := hid (Q3.out.on hb)
   go_simp
   refine hK.out _ _ hM (fun _ => ?_)
   clear hK K hHeld hk
   generalize W6.alloc (.cells #[.slice s4.rg.a s4.rg.n s4.rg.c] 55) = W2 at *
   have hHeld := hM
   clear hM hb
   try simp only [Act.put, lqA, lqB, lqC, lqD, lqE, lqF]
   refine wpAnyG_ready (rs := [3]) (by kernel_rfl) (by simp) ?_
   refine AllReadyG.cons rfl (fun K hK => ?_) AllReadyG.nil
   have hlt := hHeld.lt
   go_simp
   go_wp2_with fail
   refine (joined4_one hlt L2.out HRG4.out.2).mono ?_
   rintro e W3 ⟨t3, rfl, hl3, hF3, hb⟩
   have R3 := hid hF3
   have E3 := hid hl3
   clear hF3 hl3
   try replace L6 := hid (L6.out.on hb)
   try replace Q2 := hid (Q2.out.on hb)
   try replace Q3 := hid (Q3.out.on hb)
   have hM := hHeld.on hb
   refine hK.out _ _ hM (fun _ => ?_)
   clear hK K hHeld hlt hb
   have hHeld := hM
   clear hM
   try simp only [Act.put, lqA, lqB, lqC, lqD, lqE, lqF]
   refine wpAnyG_take (i := 8) (v := ?_) rfl (by kernel_rfl) (by kernel_rfl) (by kernel_rfl) (by kernel_rfl) (fun _ _ _ h => h) (Or.inl ⟨by kernel_rfl, ?hy8⟩) (by assumption) ?_
   case hy8 => (intro w hSw; (try dsimp only at hSw); obtain ⟨xa, xb, xc, xd, xe, xf, xg, xh, xi, xj⟩ := hSw.bx.all; obtain ⟨ya, yb, yc, yd, ye, yf, yg, yh, yi, yj⟩ := hSw.by_.all; obtain ⟨za, zb, zc, zd, ze, zf, zg, zh, zi, zj⟩ := hSw.bs.all; go_simp; try with_reducible rfl)
   try simp only [Act.put, lqA, lqB, lqC, lqD, lqE, lqF]
   refine wpAnyG_ready (rs := [7]) (by kernel_rfl) (by simp) ?_
   refine AllReadyG.cons rfl (fun K hK => ?_) AllReadyG.nil
   have hlt := hHeld.lt
   go_simp
   go_wp2_with fail
   refine (joined1_one hlt L6.out HOD4.out.2).mono ?_
   rintro e W7 ⟨t7, rfl, hl7, hF7, hb⟩
   have R7 := hid hF7
   have E7 := hid hl7
   clear hF7 hl7
   try replace R3 := hid (R3.out.on hb)
   try replace Q2 := hid (Q2.out.on hb)
   try replace Q3 := hid (Q3.out.on hb)
   have hM := hHeld.on hb
   refine hK.out _ _ hM (fun _ => ?_)
   clear hK K hHeld hlt hb
   have hHeld := hM
   clear hM
   try simp only [Act.put, lqA, lqB, lqC, lqD, lqE, lqF]
   have hG := hHeld
   clear hHeld
   have hHeld : True := trivial
   refine wpAnyG_gateOp rfl (by kernel_rfl) (fun K hK => ?_)
   obtain ⟨za, zb, zc, zd, ze, zf, zg, zh, zi, zj⟩ := hG.bs.all
   have fz := hG.bs.fz
   have hG2 := hG.st ({ s4 with rg := t3 }) 6 (.slice t3.a t3.n t3.c) rfl
   try replace R3 := hid (R3.out.st (q := w.heap.size + 1 + 1 + 1) (Nat.le_refl _) 6 (.slice t3.a t3.n t3.c))
   try replace R7 := hid (R7.out.st (q := w.heap.size + 1 + 1 + 1) (Nat.le_refl _) 6 (.slice t3.a t3.n t3.c))
   try replace Q2 := hid (Q2.out.st (q := w.heap.size + 1 + 1 + 1) (Nat.le_refl _) 6 (.slice t3.a t3.n t3.c))
   try replace Q3 := hid (Q3.out.st (q := w.heap.size + 1 + 1 + 1) (Nat.le_refl _) 6 (.slice t3.a t3.n t3.c))
   go_simp
   refine hK.out _ _ trivial (fun _ => ?_)
   clear hK K hG fz za zb zc zd ze zf zg zh zi zj
   generalize W7.setCell ⟨w.heap.size + 1 + 1 + 1, 6, none⟩ (.slice t3.a t3.n t3.c) = W9 at *
   have hG := hG2
   clear hG2
   try simp only [Act.put, lqA, lqB, lqC, lqD, lqE, lqF]
   refine wpAnyH_take (i := 10) (v := ?_) rfl (by kernel_rfl) (by kernel_rfl) (by kernel_rfl) (fun _ _ _ h => h) (Or.inl ⟨by kernel_rfl, ?hy10⟩) (by assumption) ?_
   case hy10 => (intro w hSw; (try dsimp only at hSw); go_simp; try with_reducible rfl)
   try simp only [Act.put, lqA, lqB, lqC, lqD, lqE, lqF]
   refine wpAnyH_ready (rs := [11]) (by kernel_rfl) (by simp) ?_
   refine AllReadyH.cons rfl (fun K hK => ?_) AllReadyH.nil
   obtain ⟨za, zb, zc, zd, ze, zf, zg, zh, zi, zj⟩ := hG.bs.all
   have fz := hG.bs.fz
   have hG2 := hG.st ({ s4 with rg := t3, od := t7 }) 8 (.slice t7.a t7.n t7.c) rfl
   try replace R3 := hid (R3.out.st (q := w.heap.size + 1 + 1 + 1) (Nat.le_refl _) 8 (.slice t7.a t7.n t7.c))
   try replace R7 := hid (R7.out.st (q := w.heap.size + 1 + 1 + 1) (Nat.le_refl _) 8 (.slice t7.a t7.n t7.c))
   try replace Q2 := hid (Q2.out.st (q := w.heap.size + 1 + 1 + 1) (Nat.le_refl _) 8 (.slice t7.a t7.n t7.c))
   try replace Q3 := hid (Q3.out.st (q := w.heap.size + 1 + 1 + 1) (Nat.le_refl _) 8 (.slice t7.a t7.n t7.c))
   go_simp
   refine hK.out _ _ trivial (fun _ => ?_)
   clear hK K hG fz za zb zc zd ze zf zg zh zi zj
   generalize W9.setCell ⟨w.heap.size + 1 + 1 + 1, 8, none⟩ (.slice t7.a t7.n t7.c) = W11 at *
   have hG := hG2
   clear hG2
   try simp only [Act.put, lqA, lqB, lqC, lqD, lqE, lqF]
   refine wpAnyH_done (by kernel_rfl) ?_ _
   go_wp2_with fail
   go_meet
   exact ⟨t3, t7, hG, E3.out, E7.out, R3.out, R7.out, Q2.out, Q3.out⟩
  exact AllReadyG.nil
 obtain ⟨t3, t7, hM, e3, e7, q6, q8, q2, q3⟩ := hcut
 obtain ⟨s6, hs6⟩ : ∃ s : Sx, s = { s4 with rg := t3, od := t7 } := ⟨_, rfl⟩
 rw [← hs6] at hM
 have HS6 := hid hs6
 clear HM P2 P3
 have HM := hid hM
 have E3 := hid e3
 have E7 := hid e7
 have P2 := hid q2
 have P3 := hid q3
 have P6 := hid q6
 have P8 := hid q8
 clear hM hs6 e3 e7 q2 q3 q6 q8 HRG4 HOD4
 go_upto_region 10 with fail
 go_cut [] (fun wc => ∃ t9 : Sl, Mi w x y { s6 with pl := t9 } wc ∧ t9.l = puts x.pl.l y.pl.l ∧ RdF 3 wc (w.heap.size + 1 + 1 + 1) t9 ∧ RdF 4 wc (w.heap.size + 1 + 1 + 1) t3 ∧ RdF 1 wc (w.heap.size + 1 + 1 + 1) t7 ∧ RdF 4 wc (w.heap.size + 1 + 1 + 1) s5 ∧ RdF 1 wc (w.heap.size + 1 + 1 + 1) s11 ∧ wc.ownsRow (w.heap.size + 1 + 1 + 1 + 1) 46 3 (.slice t9.a t9.n t9.c) t9.n (mcs t9.l) ∧ ∃ N, (∀ y, t9.a = some y → N ≤ y.block) ∧ (∀ z, s5.a = some z → 0 < s5.n → z.block < N) ∧ (∀ z, s11.a = some z → 0 < s11.n → z.block < N) ∧ (∀ z, t3.a = some z → 0 < t3.n → z.block < N) ∧ (∀ z, t7.a = some z → 0 < t7.n → z.block < N))
 case first =>
  obtain ⟨ya, yb, yc, yd, ye, yf, yg, yh, yi, yj⟩ := HM.out.by_.all
  obtain ⟨xa, xb, xc, xd, xe, xf, xg, xh, xi, xj⟩ := HM.out.bx.all
  have CP := hid (placed_any _ _ _ _ _ _ _ _ _ (HX.out.pl.on HM.out.bel) (HY.out.pl.on HM.out.bel) HN9.out)
  go_wp2_with fail
  refine CP.out.mono ?_
  rintro e W9 ⟨v9, rfl, hO9⟩
  have hb := hO9.bel
  obtain ⟨t9, rfl, hl9, hF9⟩ := hO9.rdf HM.out.lt
  have hM9 := HM.out.on hb
  obtain ⟨za, zb, zc, zd, ze, zf, zg, zh, zi, zj⟩ := hM9.bs.all
  have fz := hM9.bs.fz
  have HM9 := hid (hM9.st { s6 with pl := t9 } 9 (.slice t9.a t9.n t9.c) rfl)
  have HL9 := hid hl9
  have hn9 : t9.l.length = t9.n := hF9.rd.len
  have hO9' := hO9.own
  rw [← hl9, hn9] at hO9'
  have hlt9 := HM.out.lt
  have HO := hid (ownsRow_set (ownsRow_low hO9' (show w.heap.size + 1 + 1 + 1 + 1 ≤ _ by omega)) ⟨w.heap.size + 1 + 1 + 1, 9, none⟩ (fun he => by
   have := (hO9'.lt _ he).1
   simp only at this
   omega) (.slice t9.a t9.n t9.c))
  have HN : Hid (∃ N, (∀ y, t9.a = some y → N ≤ y.block) ∧ (∀ z, s5.a = some z → 0 < s5.n → z.block < N) ∧ (∀ z, s11.a = some z → 0 < s11.n → z.block < N) ∧ (∀ z, t3.a = some z → 0 < t3.n → z.block < N) ∧ (∀ z, t7.a = some z → 0 < t7.n → z.block < N)) :=
   ⟨_, fun y hy => (hO9'.lt y.block (by rw [hy]; rfl)).1, rdm_lt P2.out.rd, rdm_lt P3.out.rd, rdm_lt P6.out.rd, rdm_lt P8.out.rd⟩
  have P9 := hid (hF9.st (Nat.le_refl _) 9 (.slice t9.a t9.n t9.c))
  replace P2 := hid ((P2.out.on hb).st (Nat.le_refl _) 9 (.slice t9.a t9.n t9.c))
  replace P3 := hid ((P3.out.on hb).st (Nat.le_refl _) 9 (.slice t9.a t9.n t9.c))
  replace P6 := hid ((P6.out.on hb).st (Nat.le_refl _) 9 (.slice t9.a t9.n t9.c))
  replace P8 := hid ((P8.out.on hb).st (Nat.le_refl _) 9 (.slice t9.a t9.n t9.c))
  clear hn9 hO9' hlt9 hM9 hl9 hF9 hO9 hb CP xa xb xc xd xe xf xg xh xi xj ya yb yc yd ye yf yg yh yi yj
  go_wp2_with fail
  go_meet
  exact ⟨t9, HM9.out, HL9.out, P9.out, P6.out, P8.out, P2.out, P3.out, HO.out, HN.out⟩
 obtain ⟨t9, hM, e9, q9, q6, q8, q2, q3, qo, qn⟩ := hcut
 obtain ⟨r, hr⟩ : ∃ s : Sx, s = { s6 with pl := t9 } := ⟨_, rfl⟩
 rw [← hr] at hM
 have HR := hid hr
 have E9 := hid e9
 have HM := hid hM
 obtain ⟨za, zb, zc, zd, ze, zf, zg, zh, zi, zj⟩ := hM.bs.all
 obtain ⟨ra, rb, rc, rd, re, rf, rg, rh, ri, rj⟩ := hM.bz.all
 have fz := hM.bz.fz
 have HZ := hid (hM.bz.stz r)
 have HB := hid (below_stz hM.bel (show w.heap.size ≤ w.heap.size + 1 + 1 by omega) r)
 have P9 := hid (q9.stz (q := w.heap.size + 1 + 1) (by omega) r)
 have P6 := hid (q6.stz (q := w.heap.size + 1 + 1) (by omega) r)
 have P8 := hid (q8.stz (q := w.heap.size + 1 + 1) (by omega) r)
 have P2 := hid (q2.stz (q := w.heap.size + 1 + 1) (by omega) r)
 have P3 := hid (q3.stz (q := w.heap.size + 1 + 1) (by omega) r)
 have HO := hid (ownsRow_stz (ownsRow_low qo (show w.heap.size ≤ _ by omega)) (w.heap.size + 1 + 1) (fun he => by have := (qo.lt _ he).1; omega) r)
 have HN := hid qn
 clear hM hr e9 q9 q6 q8 q2 q3 qo qn
 go_wp2
 refine bodyPost_ret (results_cell_row rfl _ _ (w.heap.size + 1 + 1) _ _ _ _ rfl HZ.out.bk.obj Tryz.underlying72 rfl infoSt) rfl ?_
 refine ⟨r, rfl, ?_, ?_, ?_, HB.out, ?_, ?_⟩
 ·rw [HR.out, HS6.out, HS4.out]
  rw [HR.out, HS6.out, HS4.out] at P2 P3 P6 P8 P9
  exact ⟨P2.out.rd, P3.out.rd, P6.out.rd, P8.out.rd, P9.out.rd⟩
 ·rw [HR.out, HS6.out, HS4.out]
  exact ⟨fun y e => by have := P2.out.far y e; omega, fun y e => by have := P3.out.far y e; omega, fun y e => by have := P6.out.far y e; omega, fun y e => by have := P8.out.far y e; omega, fun y e => by have := P9.out.far y e; omega⟩
 ·rw [HR.out]
  simp only [Sx.q, mrg, E9.out, HS6.out, E3.out, E7.out, HS4.out, E5.out, E11.out, ERG.out, EOD.out]
  rw [HS3.out, HS2.out, HS1.out]
  cases y.inp <;> cases y.ord <;> rfl
 ·have h := HO.out
  rw [HR.out]
  rw [HR.out] at h
  exact h
 ·obtain ⟨N, n9, n2, n3, n6, n8⟩ := HN.out
  rw [HR.out, HS6.out, HS4.out]
  intro y hy z
  have h9 := n9 y hy
  exact ⟨fun hz hn => by have := n2 z hz hn; omega, fun hz hn => by have := n3 z hz hn; omega, fun hz hn => by have := n6 z hz hn; omega, fun hz hn => by have := n8 z hz hn; omega⟩
theorem merge_any (x y : Sx) (w : World) (okx : x.Ok w) (oky : y.Ok w) (lx : x.Len 1000) (ly : y.Len 1000) : Calls Tryz.prog 61 #[.agg #[.bool x.at_, .int .i64 x.buf, .slice x.dm.a x.dm.n x.dm.c, .slice x.fr.a x.fr.n x.fr.c, .bool x.inp, .bool x.all, .slice x.rg.a x.rg.n x.rg.c, .bool x.ord, .slice x.od.a x.od.n x.od.c, .slice x.pl.a x.pl.n x.pl.c], .agg #[.bool y.at_, .int .i64 y.buf, .slice y.dm.a y.dm.n y.dm.c, .slice y.fr.a y.fr.n y.fr.c, .bool y.inp, .bool y.all, .slice y.rg.a y.rg.n y.rg.c, .bool y.ord, .slice y.od.a y.od.n y.od.c, .slice y.pl.a y.pl.n y.pl.c]] w (Rst w (mrg x.q y.q)) := (mergeo_any x y w okx oky lx ly).mono fun _ _ h => h.rst
end
end Go.Proofs.YtkjempffidndeaaGreatDoor
