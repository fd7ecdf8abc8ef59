/- Both stores, and the call at hand. -/
import Derived.Test.YtnfenfleahennaaDoorPolN
import Derived.Test.YtnfenfleahennaaDoorOpn11
namespace Go.Proofs.YtnfenfleahennaaDoor
open Go Go.RowKit

/-- A call: its kind, numbers and the array. -/
structure Cl where
  k : Int
  id : Int
  ot : Int
  n : Int
  m : Int
  i0 : Int
  i1 : Int
  i2 : Int
  i3 : Int
  i4 : Int
  i5 : Int

/-- The call at o. -/
structure Oc (x : World) (o : Nat) (r : Cl) : Prop where
  lt : o < x.heap.size
  c0 : x.cell? ⟨o, 0, none⟩ = some (.int .i64 r.k)
  c1 : x.cell? ⟨o, 1, none⟩ = some (.int .i64 r.id)
  c2 : x.cell? ⟨o, 2, none⟩ = some (.int .i64 r.ot)
  c3 : x.cell? ⟨o, 3, none⟩ = some (.int .i64 r.n)
  c4 : x.cell? ⟨o, 4, none⟩ = some (.int .i64 r.m)
  c5 : x.cell? ⟨o, 5, none⟩ = some (.int .i64 r.i0)
  c6 : x.cell? ⟨o, 6, none⟩ = some (.int .i64 r.i1)
  c7 : x.cell? ⟨o, 7, none⟩ = some (.int .i64 r.i2)
  c8 : x.cell? ⟨o, 8, none⟩ = some (.int .i64 r.i3)
  c9 : x.cell? ⟨o, 9, none⟩ = some (.int .i64 r.i4)
  ca : x.cell? ⟨o, 10, none⟩ = some (.int .i64 r.i5)
/-- The array at o. -/
structure Oi (x : World) (o : Nat) (r : Cl) : Prop where
  lt : o < x.heap.size
  c0 : x.cell? ⟨o, 0, none⟩ = some (.int .i64 r.i0)
  c1 : x.cell? ⟨o, 1, none⟩ = some (.int .i64 r.i1)
  c2 : x.cell? ⟨o, 2, none⟩ = some (.int .i64 r.i2)
  c3 : x.cell? ⟨o, 3, none⟩ = some (.int .i64 r.i3)
  c4 : x.cell? ⟨o, 4, none⟩ = some (.int .i64 r.i4)

theorem cell_heap {x y : World} {a : Addr} {v : Value} (h : x.cell? a = some v) (e : y.heap[a.block]? = x.heap[a.block]?) : y.cell? a = some v := by rw [World.cell?_of_block e]; exact h
theorem Oc.turn {x y : World} {o : Nat} {r : Cl} (h : Oc x o r) (hs : x.heap.size ≤ y.heap.size) (e : y.heap[o]? = x.heap[o]?) : Oc y o r :=
  ⟨Nat.lt_of_lt_of_le h.lt hs, cell_heap h.c0 e, cell_heap h.c1 e, cell_heap h.c2 e, cell_heap h.c3 e, cell_heap h.c4 e, cell_heap h.c5 e, cell_heap h.c6 e, cell_heap h.c7 e, cell_heap h.c8 e, cell_heap h.c9 e, cell_heap h.ca e⟩
theorem Oi.turn {x y : World} {o : Nat} {r : Cl} (h : Oi x o r) (hs : x.heap.size ≤ y.heap.size) (e : y.heap[o]? = x.heap[o]?) : Oi y o r :=
  ⟨Nat.lt_of_lt_of_le h.lt hs, cell_heap h.c0 e, cell_heap h.c1 e, cell_heap h.c2 e, cell_heap h.c3 e, cell_heap h.c4 e⟩

/-- Both stores: the program's (P, B) and the document's (R, D). -/
structure Bo (w x : World) (bd p a b q : Nat) (P : PL) (B : BL) (R : PL) (D : BL) : Prop where
  st : Pst w.heap.size x p a b P B
  ds : Dst bd x q R D
  lp : p < bd
  la : a < bd
  lb : b < bd
  bel : Below w.heap.size w x
  lo : w.heap.size ≤ bd
  np : P.length < 900
  nb : B.length < 900
  nr : R.length < 900
  nd : D.length < 900

/-- A block that is neither's. -/
structure Fr (x : World) (p a b q o : Nat) : Prop where
  lt : o < x.heap.size
  np : o ≠ p
  na : o ≠ a
  nb : o ≠ b
  nq : o ≠ q
  no : ¬ Own x q o

/-- Both, the call, and its array (at o2; where there is none yet: o2 = o). -/
structure Ob (w x : World) (bd p a b q o o2 : Nat) (r : Cl) (P : PL) (B : BL) (R : PL) (D : BL) : Prop where
  bo : Bo w x bd p a b q P B R D
  f : Fr x p a b q o
  f2 : Fr x p a b q o2
  oc : Oc x o r

variable {w x y : World} {bd p a b q o o2 : Nat} {r : Cl} {P R : PL} {B D : BL} {es : List Addr}

theorem Bo.on (h : Bo w x bd p a b q P B R D) (hb : Below x.heap.size x y) : Bo w y bd p a b q P B R D := ⟨h.st.on hb, h.ds.on hb, h.lp, h.la, h.lb, Below.on h.bel hb, h.lo, h.np, h.nb, h.nr, h.nd⟩
theorem Bo.bdx (h : Bo w x bd p a b q P B R D) : bd ≤ x.heap.size := Nat.le_of_lt (Nat.lt_of_le_of_lt h.ds.lo h.ds.lt)
theorem Fr.on (h : Fr x p a b q o) (hq : q < x.heap.size) (hb : Below x.heap.size x y) : Fr y p a b q o :=
  ⟨Nat.lt_of_lt_of_le h.lt hb.size, h.np, h.na, h.nb, h.nq, fun ⟨pv, bv, T, f, e, e2⟩ => h.no ⟨pv, bv, T, f, by rw [← hb.block q hq]; exact e, e2⟩⟩
theorem Ob.on (h : Ob w x bd p a b q o o2 r P B R D) (hb : Below x.heap.size x y) : Ob w y bd p a b q o o2 r P B R D :=
  ⟨h.bo.on hb, h.f.on h.bo.ds.lt hb, h.f2.on h.bo.ds.lt hb, h.oc.turn hb.size (hb.block o h.f.lt)⟩
theorem Ob.drew (h : Ob w x bd p a b q o o2 r P B R D) : Ob w x.drew bd p a b q o o2 r P B R D := h.on (Below.refl _ _).drew
theorem Ob.bel (h : Ob w x bd p a b q o o2 r P B R D) : Below w.heap.size w x := h.bo.bel

/-- The program has turned its own. -/
theorem Ob.mine (h : Ob w x bd p a b q o o2 r P B R D) {P' : PL} {B' : BL} {z : Nat} (hz : z = a ∨ z = b) (ht : Pst w.heap.size y p a b P' B') (hk : Kp [z] x y) (n1 : P'.length < 900) (n2 : B'.length < 900) : Ob w y bd p a b q o o2 r P' B' R D := by
  have hzb : z < bd := by
    rcases hz with rfl | rfl
    · exact h.bo.la
    · exact h.bo.lb
  have hzl : w.heap.size ≤ z := by
    rcases hz with rfl | rfl
    · exact h.bo.st.loa
    · exact h.bo.st.lob
  have hqz : q ∉ [z] := by have := h.bo.ds.lo; simp; omega
  have ho : ∀ {o : Nat}, Fr x p a b q o → o ∉ [z] := fun {o} f => by
    rcases hz with rfl | rfl
    · simpa using f.na
    · simpa using f.nb
  have hfr : ∀ {o : Nat}, Fr x p a b q o → Fr y p a b q o := fun {o} f => ⟨Nat.lt_of_lt_of_le f.lt hk.size, f.np, f.na, f.nb, f.nq, fun ⟨pv, bv, T, g, e, e2⟩ => f.no ⟨pv, bv, T, g, by rw [← hk.block q h.bo.ds.lt hqz]; exact e, e2⟩⟩
  refine ⟨⟨ht, h.bo.ds.kept hk (fun k hm => by simp only [List.mem_cons, List.not_mem_nil, or_false] at hm; rw [hm]; exact hzb), h.bo.lp, h.bo.la, h.bo.lb, h.bo.bel.trans (hk.below h.bo.bel.size (fun k hm => by simp only [List.mem_cons, List.not_mem_nil, or_false] at hm; rw [hm]; exact hzl)), h.bo.lo, n1, n2, h.bo.nr, h.bo.nd⟩, hfr h.f, hfr h.f2, h.oc.turn hk.size (hk.block o h.f.lt (ho h.f))⟩
theorem Ob.mine_i (h : Ob w x bd p a b q o o2 r P B R D) {z : Nat} (hz : z = a ∨ z = b) (hk : Kp [z] x y) (hi : Oi x o2 r) : Oi y o2 r := by
  refine hi.turn hk.size (hk.block o2 h.f2.lt ?_)
  rcases hz with rfl | rfl
  · simpa using h.f2.na
  · simpa using h.f2.nb

/-- The document has turned its own. -/
theorem Ob.its (h : Ob w x bd p a b q o o2 r P B R D) {R' : PL} {D' : BL} (ht : Dst bd y q R' D') (hd : Dfb bd q x y) (n1 : R'.length < 900) (n2 : D'.length < 900) : Ob w y bd p a b q o o2 r P B R' D' := by
  have hfr : ∀ {o : Nat}, Fr x p a b q o → Fr y p a b q o := fun {o} f => ⟨Nat.lt_of_lt_of_le f.lt hd.bel.size, f.np, f.na, f.nb, f.nq, (hd.keep o f.lt f.nq f.no).2⟩
  have hpst : Pst w.heap.size y p a b P B := by
    have e := fun k (hk : k < bd) => hd.bel.block k hk
    obtain ⟨D1, h1, h2⟩ := h.bo.st.pown
    obtain ⟨D2, h3, h4⟩ := h.bo.st.bown
    refine ⟨h.bo.st.lop, h.bo.st.loa, h.bo.st.lob, h.bo.st.npa, h.bo.st.npb, h.bo.st.nab, by rw [e p h.bo.lp]; exact h.bo.st.var, ⟨D1, ?_, h2⟩, ⟨D2, ?_, h4⟩, h.bo.st.ok⟩
    · obtain ⟨es, clock, hb, F, hs, hD⟩ := h1
      exact ⟨es, clock, by rw [e a h.bo.la]; exact hb, F, hs, hD⟩
    · obtain ⟨es, clock, hb, F, hs, hD⟩ := h3
      exact ⟨es, clock, by rw [e b h.bo.lb]; exact hb, F, hs, hD⟩
  exact ⟨⟨hpst, ht, h.bo.lp, h.bo.la, h.bo.lb, h.bo.bel.trans (hd.bel.mono h.bo.lo), h.bo.lo, h.bo.np, h.bo.nb, n1, n2⟩, hfr h.f, hfr h.f2, h.oc.turn hd.bel.size (hd.keep o h.f.lt h.f.nq h.f.no).1⟩
theorem Ob.its_i (h : Ob w x bd p a b q o o2 r P B R D) (hd : Dfb bd q x y) (hi : Oi x o2 r) : Oi y o2 r := hi.turn hd.bel.size (hd.keep o2 h.f2.lt h.f2.nq h.f2.no).1

/-! How long. -/
theorem poolS_len (P : PL) (id key size memory : Int) : (poolS P id key size memory).length ≤ P.length + 1 := by
  unfold poolS
  split
  · exact wr_length _ _ _
  · omega
theorem rszS_len (P : PL) (id size memory : Int) : (rszS P id size memory).length ≤ P.length + 1 := by
  unfold rszS
  split
  · exact wr_length _ _ _
  · omega
theorem bufS_len (P : PL) (B : BL) (id pool off wd h st fm : Int) : (bufS P B id pool off wd h st fm).length ≤ B.length + 1 := by
  unfold bufS
  split
  · exact wr_length _ _ _
  · omega
theorem dbS_len (B : BL) (id : Int) : (dbS B id).length ≤ B.length + 1 := by
  unfold dbS
  split
  · exact wr_length _ _ _
  · omega
theorem gvE_le (a b c : Int) : gvE a b c ≤ 16 := by
  unfold gvE
  repeat' split
  all_goals omega
theorem poolE_le (P : PL) (a b c : Int) : poolE P a b c ≤ 16 := by
  unfold poolE
  split
  · omega
  · exact gvE_le _ _ _
theorem rszE_le (P : PL) (a b c : Int) : rszE P a b c ≤ 16 := by
  unfold rszE
  split
  · omega
  · exact gvE_le _ _ _
theorem dpE_le (P : PL) (a : Int) : dpE P a ≤ 16 := by unfold dpE; split <;> omega
theorem dbE_le (B : BL) (a : Int) : dbE B a ≤ 16 := by unfold dbE; split <;> omega
theorem bufE_le (P : PL) (B : BL) (id pool off wd h st fm : Int) : bufE P B id pool off wd h st fm ≤ 16 := by
  unfold bufE
  split
  · omega
  · split
    · omega
    · exact rmE_le _ _ _ _ _ _

/-! The calls. -/
theorem Ob.kind (h : Ob w x bd p a b q o o2 r P B R D) (hE : Errs w gerrs es) (k : Nat) (hk : k ≤ 16) :
    Calls Tryd.prog 11 #[erv es k] x fun e y => e = .returned (.int .i64 k) ∧ Ob w y bd p a b q o o2 r P B R D := by
  refine (kind_erv x es (hE.below h.bel) k hk).mono ?_
  rintro e y ⟨rfl, hb⟩
  exact ⟨rfl, h.on hb⟩
theorem Ob.pool (h : Ob w x bd p a b q o o2 r P B R D) (hE : Errs w gerrs es) (hi : I64 r.id) (hn : P.length < 800) :
    Calls Tryd.prog 12 #[.pointer (some ⟨p, 0, none⟩), .int .i64 r.id, .int .i64 r.ot, .int .i64 r.n, .int .i64 r.m] x fun e y => e = .returned (erv es (poolE P r.id r.n r.m)) ∧ Ob w y bd p a b q o o2 r (poolS P r.id r.ot r.n r.m) B R D := by
  refine (ppool_any (hE.below h.bel) h.bo.st (by omega) r.id r.ot r.n r.m hi).mono ?_
  rintro e y ⟨rfl, ht, hk⟩
  have := poolS_len P r.id r.ot r.n r.m
  exact ⟨rfl, h.mine (.inl rfl) ht hk (by omega) h.bo.nb⟩
theorem Ob.rpool (h : Ob w x bd p a b q o o2 r P B R D) (hn : R.length < 800) :
    Calls Tryd.prog 13 #[.pointer (some ⟨q, 0, none⟩), .int .i64 r.id, .int .i64 r.ot, .int .i64 r.n, .int .i64 r.m] x fun e y => e = .returned (.int .i64 (poolE R r.id r.n r.m : Nat)) ∧ Ob w y bd p a b q o o2 r P B (poolS R r.id r.ot r.n r.m) D := by
  refine (rpoolc_any h.bo.ds (by omega) r.id r.ot r.n r.m).mono ?_
  rintro e y ⟨rfl, ht, hk⟩
  have := poolS_len R r.id r.ot r.n r.m
  exact ⟨rfl, h.its ht hk (by omega) h.bo.nd⟩
theorem Ob.resize (h : Ob w x bd p a b q o o2 r P B R D) (hE : Errs w gerrs es) (hi : I64 r.id) (hn : P.length < 800) :
    Calls Tryd.prog 14 #[.pointer (some ⟨p, 0, none⟩), .int .i64 r.id, .int .i64 r.n, .int .i64 r.m] x fun e y => e = .returned (erv es (rszE P r.id r.n r.m)) ∧ Ob w y bd p a b q o o2 r (rszS P r.id r.n r.m) B R D := by
  refine (presize_any (hE.below h.bel) h.bo.st (by omega) r.id r.n r.m hi).mono ?_
  rintro e y ⟨rfl, ht, hk⟩
  have := rszS_len P r.id r.n r.m
  exact ⟨rfl, h.mine (.inl rfl) ht hk (by omega) h.bo.nb⟩
theorem Ob.rresize (h : Ob w x bd p a b q o o2 r P B R D) (hn : R.length < 800) :
    Calls Tryd.prog 15 #[.pointer (some ⟨q, 0, none⟩), .int .i64 r.id, .int .i64 r.n, .int .i64 r.m] x fun e y => e = .returned (.int .i64 (rszE R r.id r.n r.m : Nat)) ∧ Ob w y bd p a b q o o2 r P B (rszS R r.id r.n r.m) D := by
  refine (rresize_any h.bo.ds (by omega) r.id r.n r.m).mono ?_
  rintro e y ⟨rfl, ht, hk⟩
  have := rszS_len R r.id r.n r.m
  exact ⟨rfl, h.its ht hk (by omega) h.bo.nd⟩
theorem Ob.drop (h : Ob w x bd p a b q o o2 r P B R D) (hE : Errs w gerrs es) (hi : I64 r.id) :
    Calls Tryd.prog 16 #[.pointer (some ⟨p, 0, none⟩), .int .i64 r.id] x fun e y => e = .returned (erv es (dpE P r.id)) ∧ Ob w y bd p a b q o o2 r (rm P r.id) B R D := by
  refine (pdrop_any (hE.below h.bel) h.bo.st r.id hi).mono ?_
  rintro e y ⟨rfl, ht, hk⟩
  have := rm_length P r.id
  have := h.bo.np
  exact ⟨rfl, h.mine (.inl rfl) ht hk (by omega) h.bo.nb⟩
theorem Ob.rdrop (h : Ob w x bd p a b q o o2 r P B R D) :
    Calls Tryd.prog 17 #[.pointer (some ⟨q, 0, none⟩), .int .i64 r.id] x fun e y => e = .returned (.int .i64 (dpE R r.id : Nat)) ∧ Ob w y bd p a b q o o2 r P B (rm R r.id) D := by
  have hnr := h.bo.nr
  refine (rdrop_any h.bo.ds (by omega) r.id).mono ?_
  rintro e y ⟨rfl, ht, hk⟩
  have := rm_length R r.id
  exact ⟨rfl, h.its ht hk (by omega) h.bo.nd⟩
theorem Ob.dropb (h : Ob w x bd p a b q o o2 r P B R D) (hE : Errs w gerrs es) (hi : I64 r.id) (hn : B.length < 800) :
    Calls Tryd.prog 18 #[.pointer (some ⟨p, 0, none⟩), .int .i64 r.id] x fun e y => e = .returned (erv es (dbE B r.id)) ∧ Ob w y bd p a b q o o2 r P (dbS B r.id) R D := by
  refine (pdropb_any (hE.below h.bel) h.bo.st (by omega) r.id hi).mono ?_
  rintro e y ⟨rfl, ht, hk⟩
  have := dbS_len B r.id
  exact ⟨rfl, h.mine (.inr rfl) ht hk h.bo.np (by omega)⟩
theorem Ob.rdropb (h : Ob w x bd p a b q o o2 r P B R D) (hn : D.length < 800) :
    Calls Tryd.prog 19 #[.pointer (some ⟨q, 0, none⟩), .int .i64 r.id] x fun e y => e = .returned (.int .i64 (dbE D r.id : Nat)) ∧ Ob w y bd p a b q o o2 r P B R (dbS D r.id) := by
  refine (rdropb_any h.bo.ds (by omega) r.id).mono ?_
  rintro e y ⟨rfl, ht, hk⟩
  have := dbS_len D r.id
  exact ⟨rfl, h.its ht hk h.bo.nr (by omega)⟩
theorem Ob.forget (h : Ob w x bd p a b q o o2 r P B R D) (hi : I64 r.id) :
    Calls Tryd.prog 20 #[.pointer (some ⟨p, 0, none⟩), .int .i64 r.id] x fun e y => e = .returned undef ∧ Ob w y bd p a b q o o2 r P (rm B r.id) R D := by
  refine (pforget_any h.bo.st r.id hi).mono ?_
  rintro e y ⟨rfl, ht, hk⟩
  have := rm_length B r.id
  have := h.bo.nb
  exact ⟨rfl, h.mine (.inr rfl) ht hk h.bo.np (by omega)⟩
theorem Ob.rforget (h : Ob w x bd p a b q o o2 r P B R D) :
    Calls Tryd.prog 21 #[.pointer (some ⟨q, 0, none⟩), .int .i64 r.id] x fun e y => e = .returned undef ∧ Ob w y bd p a b q o o2 r P B R (rm D r.id) := by
  have hnd := h.bo.nd
  refine (rforget_any h.bo.ds (by omega) r.id).mono ?_
  rintro e y ⟨rfl, ht, hk⟩
  have := rm_length D r.id
  exact ⟨rfl, h.its ht hk h.bo.nr (by omega)⟩
theorem Ob.buffer (h : Ob w x bd p a b q o o2 r P B R D) (hE : Errs w gerrs es) (hO : Oi x o2 r) (hi : I64 r.id) (ht : I64 r.ot) (h1 : I64 r.i0) (h2 : I64 r.i1) (h3 : I64 r.i2) (h4 : I64 r.i3) (hn : B.length < 800) :
    Calls Tryd.prog 22 #[.pointer (some ⟨p, 0, none⟩), .int .i64 r.id, .int .i64 r.ot, .int .i64 r.i0, .int .i64 r.i1, .int .i64 r.i2, .int .i64 r.i3, .int .i64 r.i4] x fun e y => e = .returned (erv es (bufE P B r.id r.ot r.i0 r.i1 r.i2 r.i3 r.i4)) ∧ Ob w y bd p a b q o o2 r P (bufS P B r.id r.ot r.i0 r.i1 r.i2 r.i3 r.i4) R D ∧ Oi y o2 r := by
  refine (pbuffer_any (hE.below h.bel) h.bo.st (by omega) r.id r.ot r.i0 r.i1 r.i2 r.i3 r.i4 hi ht h1 h2 h3 h4).mono ?_
  rintro e y ⟨rfl, ht, hk⟩
  have := bufS_len P B r.id r.ot r.i0 r.i1 r.i2 r.i3 r.i4
  exact ⟨rfl, h.mine (.inr rfl) ht hk h.bo.np (by omega), h.mine_i (.inr rfl) hk hO⟩
theorem Ob.rbuffer (h : Ob w x bd p a b q o o2 r P B R D) (hO : Oi x o2 r) (h1 : I64 r.i0) (h2 : I64 r.i1) (h3 : I64 r.i2) (h4 : I64 r.i3) (hn : D.length < 800) :
    Calls Tryd.prog 23 #[.pointer (some ⟨q, 0, none⟩), .int .i64 r.id, .int .i64 r.ot, .agg #[.int .i64 0, .int .i64 r.i0, .int .i64 r.i1, .int .i64 r.i2, .int .i64 r.i3, .int .i64 r.i4]] x fun e y => e = .returned (.int .i64 (bufE R D r.id r.ot r.i0 r.i1 r.i2 r.i3 r.i4 : Nat)) ∧ Ob w y bd p a b q o o2 r P B R (bufS R D r.id r.ot r.i0 r.i1 r.i2 r.i3 r.i4) ∧ Oi y o2 r := by
  have hnr := h.bo.nr
  refine (rbufc_any h.bo.ds (by omega) (by omega) r.id r.ot r.i0 r.i1 r.i2 r.i3 r.i4 h1 h2 h3 h4).mono ?_
  rintro e y ⟨rfl, ht, hk⟩
  have := bufS_len R D r.id r.ot r.i0 r.i1 r.i2 r.i3 r.i4
  exact ⟨rfl, h.its ht hk h.bo.nr (by omega), h.its_i hk hO⟩
theorem Ob.size (h : Ob w x bd p a b q o o2 r P B R D) (hi : I64 r.id) :
    Calls Tryd.prog 24 #[.pointer (some ⟨p, 0, none⟩), .int .i64 r.id] x fun e y => e = .returned (.int .i64 (szOf P r.id)) ∧ Ob w y bd p a b q o o2 r P B R D := by
  refine (psize_any h.bo.st r.id hi).mono ?_
  rintro e y ⟨rfl, hb⟩
  exact ⟨rfl, h.on hb⟩
theorem Ob.rsize (h : Ob w x bd p a b q o o2 r P B R D) :
    Calls Tryd.prog 25 #[.pointer (some ⟨q, 0, none⟩), .int .i64 r.id] x fun e y => e = .returned (.int .i64 (szOf R r.id)) ∧ y = x := rsize_any h.bo.ds (by have := h.bo.nr; omega) r.id
theorem Ob.live (h : Ob w x bd p a b q o o2 r P B R D) (hi : I64 r.id) :
    Calls Tryd.prog 26 #[.pointer (some ⟨p, 0, none⟩), .int .i64 r.id] x fun e y => e = .returned (.bool (liveOf B r.id)) ∧ Ob w y bd p a b q o o2 r P B R D := by
  refine (plive_any h.bo.st r.id hi).mono ?_
  rintro e y ⟨rfl, hb⟩
  exact ⟨rfl, h.on hb⟩
theorem Ob.rlive (h : Ob w x bd p a b q o o2 r P B R D) :
    Calls Tryd.prog 27 #[.pointer (some ⟨q, 0, none⟩), .int .i64 r.id] x fun e y => e = .returned (.bool (liveOf D r.id)) ∧ y = x := rlive_any h.bo.ds (by have := h.bo.nd; omega) r.id
theorem Ob.all (h : Ob w x bd p a b q o o2 r P B R D) :
    Calls Tryd.prog 29 #[.pointer (some ⟨p, 0, none⟩)] x fun e y => ∃ v c, e = .returned (.slice v (srt B).length c) ∧ RdZ y v (srt B).length (srt B) ∧ Ob w y bd p a b q o o2 r P B R D := by
  refine (pall_any h.bo.st (by have := h.bo.nb; omega)).mono ?_
  rintro e y ⟨v, rfl, ho, hb⟩
  obtain ⟨a', c', rfl, hr⟩ := rdz_of ho
  exact ⟨a', c', rfl, hr, h.on hb⟩
theorem Ob.rall (h : Ob w x bd p a b q o o2 r P B R D) :
    Calls Tryd.prog 30 #[.pointer (some ⟨q, 0, none⟩)] x fun e y => ∃ v c, e = .returned (.slice v (srt D).length c) ∧ RdZ y v (srt D).length (srt D) ∧ Ob w y bd p a b q o o2 r P B R D ∧ Below x.heap.size x y := by
  refine (rall_any h.bo.ds (by have := h.bo.nd; omega)).mono ?_
  rintro e y ⟨v, rfl, ho, hb⟩
  obtain ⟨a', c', rfl, hr⟩ := rdz_of ho
  exact ⟨a', c', rfl, hr, h.on hb, hb⟩
theorem Ob.same (h : Ob w x bd p a b q o o2 r P B P B) (hi : I64 r.id) :
    Calls Tryd.prog 31 #[.pointer (some ⟨p, 0, none⟩), .pointer (some ⟨q, 0, none⟩), .int .i64 r.id] x fun e y => e = .returned (.bool true) ∧ Ob w y bd p a b q o o2 r P B P B := by
  refine (psame_any h.bo.st h.bo.ds (by have := h.bo.nb; omega) r.id hi).mono ?_
  rintro e y ⟨rfl, hb⟩
  exact ⟨rfl, h.on hb⟩

/-- With the array. -/
structure Obi (w x : World) (bd p a b q o o2 : Nat) (r : Cl) (P : PL) (B : BL) (R : PL) (D : BL) : Prop where
  ob : Ob w x bd p a b q o o2 r P B R D
  oi : Oi x o2 r
theorem Obi.oc (h : Obi w x bd p a b q o o2 r P B R D) : Oc x o r ∧ Oi x o2 r := ⟨h.ob.oc, h.oi⟩
theorem Obi.drew (h : Obi w x bd p a b q o o2 r P B R D) : Obi w x.drew bd p a b q o o2 r P B R D := ⟨h.ob.drew, h.oi.turn (Nat.le_refl _) rfl⟩
theorem Obi.kind (h : Obi w x bd p a b q o o2 r P B R D) (hE : Errs w gerrs es) (k : Nat) (hk : k ≤ 16) :
    Calls Tryd.prog 11 #[erv es k] x fun e y => e = .returned (.int .i64 k) ∧ Obi w y bd p a b q o o2 r P B R D := by
  refine (kind_erv x es (hE.below h.ob.bel) k hk).mono ?_
  rintro e y ⟨rfl, hb⟩
  exact ⟨rfl, h.ob.on hb, h.oi.turn hb.size (hb.block o2 h.ob.f2.lt)⟩
theorem Obi.buffer (h : Obi w x bd p a b q o o2 r P B R D) (hE : Errs w gerrs es) (hi : I64 r.id) (ht : I64 r.ot) (h1 : I64 r.i0) (h2 : I64 r.i1) (h3 : I64 r.i2) (h4 : I64 r.i3) (hn : B.length < 800) :
    Calls Tryd.prog 22 #[.pointer (some ⟨p, 0, none⟩), .int .i64 r.id, .int .i64 r.ot, .int .i64 r.i0, .int .i64 r.i1, .int .i64 r.i2, .int .i64 r.i3, .int .i64 r.i4] x fun e y => e = .returned (erv es (bufE P B r.id r.ot r.i0 r.i1 r.i2 r.i3 r.i4)) ∧ Obi w y bd p a b q o o2 r P (bufS P B r.id r.ot r.i0 r.i1 r.i2 r.i3 r.i4) R D := by
  refine (h.ob.buffer hE h.oi hi ht h1 h2 h3 h4 hn).mono ?_
  rintro e y ⟨rfl, h5, h6⟩
  exact ⟨rfl, h5, h6⟩
theorem Obi.rbuffer (h : Obi w x bd p a b q o o2 r P B R D) (h1 : I64 r.i0) (h2 : I64 r.i1) (h3 : I64 r.i2) (h4 : I64 r.i3) (hn : D.length < 800) :
    Calls Tryd.prog 23 #[.pointer (some ⟨q, 0, none⟩), .int .i64 r.id, .int .i64 r.ot, .agg #[.int .i64 0, .int .i64 r.i0, .int .i64 r.i1, .int .i64 r.i2, .int .i64 r.i3, .int .i64 r.i4]] x fun e y => e = .returned (.int .i64 (bufE R D r.id r.ot r.i0 r.i1 r.i2 r.i3 r.i4 : Nat)) ∧ Obi w y bd p a b q o o2 r P B R (bufS R D r.id r.ot r.i0 r.i1 r.i2 r.i3 r.i4) := by
  refine (h.ob.rbuffer h.oi h1 h2 h3 h4 hn).mono ?_
  rintro e y ⟨rfl, h5, h6⟩
  exact ⟨rfl, h5, h6⟩

/-- A new block is neither's. -/
theorem fr_new (h : Bo w x bd p a b q P B R D) (obj : Obj) : Fr (x.alloc obj) p a b q x.heap.size := by
  have hl := h.st.lt
  have hq := h.ds.lt
  refine ⟨by simp, by omega, by omega, by omega, by omega, ?_⟩
  rintro ⟨pv, bv, T, f, e, e2⟩
  obtain ⟨pv', bv', h1, h2, h3, _⟩ := h.ds.var
  rw [heap_alloc_old _ _ hq, h1] at e
  simp only [Option.some.injEq, Obj.cells.injEq, Array.mk.injEq, List.cons.injEq, and_true] at e
  obtain ⟨⟨rfl, rfl⟩, -⟩ := e
  rcases e2 with e2 | e2
  · have := (h2.lt _ e2).2
    omega
  · have := (h3.lt _ e2).2
    omega
theorem Ob.arr (h : Ob w x bd p a b q o o2 r P B R D) (obj : Obj) : Ob w (x.alloc obj) bd p a b q o x.heap.size r P B R D := by
  have h' := h.on (y := x.alloc obj) ((Below.refl _ _).alloc (Nat.le_refl _) _)
  exact ⟨h'.bo, h'.f, fr_new h.bo obj, h'.oc⟩
end Go.Proofs.YtnfenfleahennaaDoor
