/- Both memories side by side, by their bytes, and a call that is played. -/
import Derived.Test.YtbolncddklgecaaDoorMemN
import Derived.Test.YtbolncddklgecaaDoorOpn10
namespace Go.Proofs.YtbolncddklgecaaDoor
open Go Go.RowKit

/-- Bytes by keys. -/
abbrev Ct := Int → Option (List UInt8)
def ctS (s : Int → Mo) : Ct := fun k => (s k).map (·.2)
def ctD (d : Int → Do) : Ct := fun k => (d k).map (·.2)
def cupd (c : Ct) (k : Int) (l : List UInt8) : Ct := fun x => if x = k then some l else c x
def setC (c : Ct) (k n : Int) : Ct := if setE k n = 0 then cupd c k (rsz ((c k).getD []) n.toNat) else c
def wrEC (o : Option (List UInt8)) (j n : Int) : Nat := match o with
  | none => 9
  | some l => if inn l.length j n = true then 0 else 8
def wrC (c : Ct) (k j : Int) (b : List UInt8) : Ct := match c k with
  | none => c
  | some l => if inn l.length j b.length = true then cupd c k (wro l j.toNat b) else c
def szC (o : Option (List UInt8)) : Int := match o with
  | none => -1
  | some l => l.length
def rdC (o : Option (List UInt8)) (j n : Int) : Bool := match o with
  | none => false
  | some l => inn l.length j n
def gotC (o : Option (List UInt8)) (j n : Int) : List UInt8 := if rdC o j n = true then ((o.getD []).drop j.toNat).take n.toNat else []

theorem by_ct (s : Int → Mo) (k : Int) : by_ (s k) = (ctS s k).getD [] := by
  unfold ctS
  cases s k <;> rfl
theorem sz_ct (s : Int → Mo) (k : Int) : szI (s k) = szC (ctS s k) := by
  unfold ctS
  cases s k <;> rfl
theorem wr_ct (s : Int → Mo) (k j n : Int) : wrE (s k) j n = wrEC (ctS s k) j n := by
  unfold ctS
  cases s k <;> rfl
theorem rd_ct (s : Int → Mo) (k j n : Int) : rdOk (s k) j n = rdC (ctS s k) j n := by
  unfold ctS
  cases s k <;> rfl
theorem ct_mupd (s : Int → Mo) (k : Int) (g : Nat) (l : List UInt8) : ctS (mupd s k (some (g, l))) = cupd (ctS s) k l := by
  funext x
  unfold ctS mupd cupd
  split <;> rfl
theorem ct_set (s : Int → Mo) (k n : Int) (g : Nat) : ctS (if setE k n = 0 then mupd s k (some (g, rsz (by_ (s k)) n.toNat)) else s) = setC (ctS s) k n := by
  unfold setC
  split
  · rw [ct_mupd, by_ct]
  · rfl
theorem ct_wr (s : Int → Mo) (k j : Int) (b : List UInt8) : ctS (wrS s k j b) = wrC (ctS s) k j b := by
  unfold wrS wrC
  have e : ctS s k = (s k).map (·.2) := rfl
  cases h : s k with
  | none => rw [e, h]; rfl
  | some r =>
    rw [e, h]
    simp only [Option.map_some]
    split
    · exact ct_mupd s k _ _
    · rfl
theorem ag_ct {s : Int → Mo} {d : Int → Do} (h : Ag s d) : ctS s = ctD d := funext h

/-- Memories with these bytes, at no place. -/
def mo (c : Ct) : Int → Mo := fun k => (c k).map fun l => (0, l)
theorem ct_mo (c : Ct) : ctS (mo c) = c := by
  funext k
  unfold ctS mo
  cases c k <;> rfl
theorem ag_mo (d : Int → Do) : Ag (mo (ctD d)) d := fun k => by
  unfold mo ctD
  cases d k <;> rfl

/-- Both: the program's with the bytes c, the document's with the bytes e. -/
structure Bo (w x : World) (p b q : Nat) (s : Int → Mo) (d : Int → Do) (c e : Ct) : Prop where
  ms : Ms w x p b s
  dm : Dm w.heap.size x q d
  qf : Far p b s q
  ap : ∀ k y j, d k = some y → y.1.ownBlock = some j → Far p b s j
  sc : ctS s = c
  de : ctD d = e

/-- The call at o. -/
structure Oc (x : World) (o : Nat) (k0 k1 k2 k3 : Int) (a : Option Addr) (m n : Nat) : Prop where
  lt : o < x.heap.size
  c0 : x.cell? ⟨o, 0, none⟩ = some (.int .i64 k0)
  c1 : x.cell? ⟨o, 1, none⟩ = some (.int .i64 k1)
  c2 : x.cell? ⟨o, 2, none⟩ = some (.int .i64 k2)
  c3 : x.cell? ⟨o, 3, none⟩ = some (.int .i64 k3)
  c4 : x.cell? ⟨o, 4, none⟩ = some (.slice a m n)

theorem Oc.kp {x y : World} {o : Nat} {k0 k1 k2 k3 : Int} {a : Option Addr} {m n : Nat} {X : List Nat} (h : Oc x o k0 k1 k2 k3 a m n) (hk : Kp X x y) (hn : o ∉ X) : Oc y o k0 k1 k2 k3 a m n :=
  ⟨Nat.lt_of_lt_of_le h.lt hk.size, hk.cell h.c0 hn, hk.cell h.c1 hn, hk.cell h.c2 hn, hk.cell h.c3 hn, hk.cell h.c4 hn⟩

/-- Both, and the call. -/
def Ob (w x : World) (p b q o : Nat) (k0 k1 k2 k3 : Int) (a : Option Addr) (m n : Nat) (c e : Ct) : Prop :=
  ∃ s d, Bo w x p b q s d c e ∧ Oc x o k0 k1 k2 k3 a m n ∧ Far p b s o ∧ o ≠ q

variable {w x : World} {p b q o : Nat} {k0 k1 k2 k3 : Int} {a : Option Addr} {m n : Nat} {c e : Ct} {es : List Addr} {s : Int → Mo} {d : Int → Do}

theorem Ob.oc (h : Ob w x p b q o k0 k1 k2 k3 a m n c e) : Oc x o k0 k1 k2 k3 a m n := by
  obtain ⟨_, _, _, h, _⟩ := h
  exact h
theorem Ob.bel (h : Ob w x p b q o k0 k1 k2 k3 a m n c e) : Below w.heap.size w x := by
  obtain ⟨_, _, h, _⟩ := h
  exact h.ms.bel

theorem Bo.on (h : Bo w x p b q s d c e) {y : World} (hb : Below x.heap.size x y) : Bo w y p b q s d c e := ⟨h.ms.on hb, h.dm.on hb, h.qf, h.ap, h.sc, h.de⟩
theorem Ob.on (h : Ob w x p b q o k0 k1 k2 k3 a m n c e) {y : World} (hb : Below x.heap.size x y) : Ob w y p b q o k0 k1 k2 k3 a m n c e := by
  obtain ⟨s, d, h1, h2, h3, h4⟩ := h
  exact ⟨s, d, h1.on hb, h2.kp (kp_of_below hb []) (by simp), h3, h4⟩
theorem Ob.drew (h : Ob w x p b q o k0 k1 k2 k3 a m n c e) : Ob w x.drew p b q o k0 k1 k2 k3 a m n c e := h.on (Below.refl _ _).drew

/-- The program's blocks are old ones or new. -/
def Nw (x : World) (s s' : Int → Mo) : Prop := ∀ k r, s' k = some r → (∃ k' r', s k' = some r' ∧ r'.1 = r.1) ∨ x.heap.size ≤ r.1
theorem Far.nw {s' : Int → Mo} {j : Nat} (h : Far p b s j) (hn : Nw x s s') (hj : j < x.heap.size) : Far p b s' j :=
  ⟨h.1, h.2.1, fun k r hr => by
    rcases hn k r hr with ⟨k', r', h1, h2⟩ | h1
    · rw [← h2]; exact h.2.2 k' r' h1
    · omega⟩

/-- The program has turned its own blocks X. -/
theorem Ob.mine (h : Bo w x p b q s d c e) (ho : Oc x o k0 k1 k2 k3 a m n) (hf : Far p b s o) (hq : o ≠ q) {y : World} {s' : Int → Mo} {X : List Nat} (ht : Ms w y p b s') (hk : Kp X x y) (hX : ∀ j, Far p b s j → j ∉ X) (hn : Nw x s s') : Ob w y p b q o k0 k1 k2 k3 a m n (ctS s') e := by
  refine ⟨s', d, ⟨ht, h.dm.kept hk (hX q h.qf) (fun k z j e1 e2 => hX j (h.ap k z j e1 e2)), h.qf.nw hn h.dm.lt, fun k z j e1 e2 => (h.ap k z j e1 e2).nw hn ?_, rfl, h.de⟩, ho.kp hk (hX o hf), hf.nw hn ho.lt, hq⟩
  exact ((h.dm.row k z e1).1.lt j e2).2

theorem nw_same (x : World) (s : Int → Mo) : Nw x s s := fun k r h => .inl ⟨k, r, h, rfl⟩

theorem Ob.set (h : Ob w x p b q o k0 k1 k2 k3 a m n c e) (hE : Errs w gerrs es) :
    Calls Tryd.prog 11 #[.pointer (some ⟨p, 0, none⟩), .int .i64 k1, .int .i64 k3] x fun r y => r = .returned (erv es (setE k1 k3)) ∧ Ob w y p b q o k0 k1 k2 k3 a m n (setC c k1 k3) e := by
  obtain ⟨s, d, h1, h2, h3, h4⟩ := h
  refine (h1.ms.set (E3.of hE) k1 k3).mono ?_
  rintro r y ⟨rfl, ht, hk⟩
  refine ⟨rfl, ?_⟩
  rw [← h1.sc, ← ct_set s k1 k3 x.heap.size]
  refine Ob.mine h1 h2 h3 h4 ht hk (fun j hj => by simpa using hj.2.1) (fun k r hr => ?_)
  split at hr
  · by_cases e : k = k1
    · rw [e, mupd_same] at hr
      cases hr
      exact .inr (Nat.le_refl _)
    · rw [mupd_other s e] at hr
      exact .inl ⟨k, r, hr, rfl⟩
  · exact .inl ⟨k, r, hr, rfl⟩

theorem Ob.write (h : Ob w x p b q o k0 k1 k2 k3 a m n c e) (hE : Errs w gerrs es) (hi : -9223372036854775808 ≤ k1 ∧ k1 ≤ 9223372036854775807) (hj : -9223372036854775808 ≤ k2 ∧ k2 ≤ 9223372036854775807) {a' : Option Addr} {n' c' : Nat} {l : List UInt8} (hr : Rd x a' n' c' l) (hn : n' ≤ 65536) :
    Calls Tryd.prog 15 #[.pointer (some ⟨p, 0, none⟩), .int .i64 k1, .int .i64 k2, .slice a' n' c'] x fun r y => r = .returned (erv es (wrEC (c k1) k2 n')) ∧ Ob w y p b q o k0 k1 k2 k3 a m n (wrC c k1 k2 l) e := by
  obtain ⟨s, d, h1, h2, h3, h4⟩ := h
  refine (h1.ms.write (E3.of hE) k1 k2 hi hj a' n' c' l hr hn).mono ?_
  rintro r y ⟨rfl, ht, hk⟩
  refine ⟨by rw [wr_ct, h1.sc], ?_⟩
  rw [← h1.sc, ← ct_wr]
  refine Ob.mine h1 h2 h3 h4 ht hk (fun j hj => ?_) (fun k r hr => ?_)
  · cases e : s k1 with
    | none => simp [ob]
    | some r => simpa [ob] using Ne.symm (hj.2.2 k1 r e)
  · cases e : s k1 with
    | none =>
      rw [wrS, e] at hr
      exact .inl ⟨k, r, hr, rfl⟩
    | some r1 =>
      rw [wrS, e] at hr
      simp only at hr
      split at hr
      · by_cases ek : k = k1
        · rw [ek, mupd_same] at hr
          cases hr
          exact .inl ⟨k1, r1, e, rfl⟩
        · rw [mupd_other s ek] at hr
          exact .inl ⟨k, r, hr, rfl⟩
      · exact .inl ⟨k, r, hr, rfl⟩

theorem Ob.kind (h : Ob w x p b q o k0 k1 k2 k3 a m n c e) (hE : Errs w gerrs es) (k : Nat) (hk : k ≤ 16) :
    Calls Tryd.prog 10 #[erv es k] x fun r y => r = .returned (.int .i64 k) ∧ Ob w y p b q o k0 k1 k2 k3 a m n c e := by
  refine (kind_erv x es (hE.below h.bel) k hk).mono ?_
  rintro r y ⟨rfl, hb⟩
  exact ⟨rfl, h.on hb⟩

/-- The document has turned its own. -/
theorem Ob.its (h : Bo w x p b q s d c e) (ho : Oc x o k0 k1 k2 k3 a m n) (hf : Far p b s o) (hq : o ≠ q) {y : World} {d' : Int → Do} (hd : Dnew w.heap.size x q d y d') : Ob w y p b q o k0 k1 k2 k3 a m n c (ctD d') := by
  obtain ⟨t1, t2, t3⟩ := hd
  have hlt := h.ms.mm.lt
  have hm : Mm w.heap.size y p b s := h.ms.mm.kept t2 (by simpa using Ne.symm h.qf.1) (by simpa using Ne.symm h.qf.2.1) (fun k r e => by simpa using h.qf.2.2 k r e)
  refine ⟨s, d', ⟨h.ms.kp hm t2 (fun j hj => by simp only [List.mem_cons, List.not_mem_nil, or_false] at hj; rw [hj]; exact h.dm.lo), t1, h.qf, fun k z j e1 e2 => ?_, h.sc, rfl⟩, ho.kp t2 (by simpa using hq), hf, hq⟩
  rcases t3 k z j e1 e2 with e3 | e3
  · exact h.ap k z j e3 e2
  · exact ⟨by omega, by omega, fun k' r' e4 => by have := h.ms.mm.rlt e4; omega⟩

theorem Ob.rset (h : Ob w x p b q o k0 k1 k2 k3 a m n c e) :
    Calls Tryd.prog 12 #[.pointer (some ⟨q, 0, none⟩), .int .i64 k1, .int .i64 k3] x fun r y => r = .returned (.int .i64 (setE k1 k3 : Nat)) ∧ Ob w y p b q o k0 k1 k2 k3 a m n c (setC e k1 k3) := by
  obtain ⟨s, d, h1, h2, h3, h4⟩ := h
  refine (rset_any h1.dm (ag_mo d) h1.ms.bel.size k1 k3).mono ?_
  rintro r y ⟨rfl, d', hd, hag⟩
  refine ⟨rfl, ?_⟩
  have := ag_ct (hag 0)
  rw [ct_set, ct_mo, h1.de] at this
  rw [this]
  exact Ob.its h1 h2 h3 h4 hd
theorem Ob.rwrite (h : Ob w x p b q o k0 k1 k2 k3 a m n c e) (hj : -9223372036854775808 ≤ k2 ∧ k2 ≤ 9223372036854775807) {a' : Option Addr} {n' c' : Nat} {l : List UInt8} (hr : Rd x a' n' c' l) :
    Calls Tryd.prog 17 #[.pointer (some ⟨q, 0, none⟩), .int .i64 k1, .int .i64 k2, .slice a' n' c'] x fun r y => r = .returned (.int .i64 (wrEC (e k1) k2 n' : Nat)) ∧ Ob w y p b q o k0 k1 k2 k3 a m n c (wrC e k1 k2 l) := by
  obtain ⟨s, d, h1, h2, h3, h4⟩ := h
  refine (rwrite_any h1.dm (ag_mo d) h1.ms.bel.size k1 k2 hj a' n' c' l hr).mono ?_
  rintro r y ⟨rfl, d', hd, hag⟩
  refine ⟨by rw [wr_ct, ct_mo, h1.de], ?_⟩
  have := ag_ct hag
  rw [ct_wr, ct_mo, h1.de] at this
  rw [this]
  exact Ob.its h1 h2 h3 h4 hd
theorem Ob.size (h : Ob w x p b q o k0 k1 k2 k3 a m n c e) (hi : -9223372036854775808 ≤ k1 ∧ k1 ≤ 9223372036854775807) :
    Calls Tryd.prog 18 #[.pointer (some ⟨p, 0, none⟩), .int .i64 k1] x fun r y => r = .returned (.int .i64 (szC (c k1))) ∧ y = x := by
  obtain ⟨s, d, h1, h2, h3, h4⟩ := h
  have := h1.ms.size k1 hi
  rw [sz_ct, h1.sc] at this
  exact this
theorem Ob.rsize (h : Ob w x p b q o k0 k1 k2 k3 a m n c e) :
    Calls Tryd.prog 19 #[.pointer (some ⟨q, 0, none⟩), .int .i64 k1] x fun r y => r = .returned (.int .i64 (szC (e k1))) ∧ y = x := by
  obtain ⟨s, d, h1, h2, h3, h4⟩ := h
  have := rsize_any h1.dm (ag_mo d) k1
  rw [sz_ct, ct_mo, h1.de] at this
  exact this
theorem Ob.word (h : Ob w x p b q o k0 k1 k2 k3 a m n c e) (hi : -9223372036854775808 ≤ k1 ∧ k1 ≤ 9223372036854775807) (hj : -9223372036854775808 ≤ k2 ∧ k2 ≤ 9223372036854775807) :
    Calls Tryd.prog 20 #[.pointer (some ⟨p, 0, none⟩), .int .i64 k1, .int .i64 k2] x fun r y => r = .returned (.int .u32 (wd ((c k1).getD []) k2 : Nat)) ∧ y = x := by
  obtain ⟨s, d, h1, h2, h3, h4⟩ := h
  have := h1.ms.word k1 k2 hi hj
  rw [by_ct, h1.sc] at this
  exact this
theorem Ob.rword (h : Ob w x p b q o k0 k1 k2 k3 a m n c e) (hj : -9223372036854775808 ≤ k2 ∧ k2 ≤ 9223372036854775807) :
    Calls Tryd.prog 21 #[.pointer (some ⟨q, 0, none⟩), .int .i64 k1, .int .i64 k2] x fun r y => r = .returned (.int .u32 (wd ((e k1).getD []) k2 : Nat)) ∧ y = x := by
  obtain ⟨s, d, h1, h2, h3, h4⟩ := h
  have := rword_any h1.dm (ag_mo d) k1 k2 hj
  rw [by_ct, ct_mo, h1.de] at this
  exact this
theorem Ob.read (h : Ob w x p b q o k0 k1 k2 k3 a m n c e) (hi : -9223372036854775808 ≤ k1 ∧ k1 ≤ 9223372036854775807) (hj : -9223372036854775808 ≤ k2 ∧ k2 ≤ 9223372036854775807) (hn : -9223372036854775808 ≤ k3 ∧ k3 ≤ 9223372036854775807) :
    Calls Tryd.prog 13 #[.pointer (some ⟨p, 0, none⟩), .int .i64 k1, .int .i64 k2, .int .i64 k3] x fun r y => ∃ a' k c', r = .returned (.tuple #[.slice a' k c', .bool (rdC (c k1) k2 k3)]) ∧ Rd y a' k c' (gotC (c k1) k2 k3) ∧ Below x.heap.size x y ∧ Ob w y p b q o k0 k1 k2 k3 a m n c e := by
  have h' := h
  obtain ⟨s, d, h1, h2, h3, h4⟩ := h
  refine (h1.ms.read k1 k2 k3 hi hj hn).mono ?_
  rintro r y ⟨⟨v, rfl, hb, v0, v1⟩, _⟩
  rw [rd_ct, h1.sc] at v0 v1 ⊢
  cases hr : rdC (c k1) k2 k3 with
  | false =>
    obtain rfl := v0 hr
    refine ⟨none, 0, 0, rfl, ?_, hb, h'.on hb⟩
    rw [gotC, hr]
    exact Rd.nil y
  | true =>
    obtain ⟨rfl, hg⟩ := v1 hr
    rw [by_ct, h1.sc] at hg
    have hlen : ((((c k1).getD []).drop k2.toNat).take k3.toNat).length = k3.toNat := by
      cases hc : c k1 with
      | none => rw [hc] at hr; cases hr
      | some l =>
        rw [hc] at hr
        have h5 := inn_true hr
        rw [List.length_take, List.length_drop]
        show min k3.toNat (l.length - k2.toNat) = k3.toNat
        omega
    have hle : k3.toNat ≤ 65536 := by
      cases hc : c k1 with
      | none => rw [hc] at hr; cases hr
      | some l =>
        rw [hc] at hr
        have h5 := inn_true hr
        have h6 : l.length ≤ 65536 := by
          rw [← h1.sc] at hc
          cases hs : s k1 with
          | none => rw [ctS, hs] at hc; cases hc
          | some r =>
            rw [ctS, hs] at hc
            have : r.2 = l := by simpa using hc
            rw [← this]
            exact (h1.ms.mm.row k1 r hs).2.2.2.2
        omega
    have hrd := rd_block hg (by rw [hlen]; simp only [maxLen]; omega)
    rw [hlen] at hrd
    refine ⟨_, _, _, rfl, ?_, hb, h'.on hb⟩
    rw [gotC, hr, if_pos rfl]
    exact hrd
theorem Ob.rread (h : Ob w x p b q o k0 k1 k2 k3 a m n c e) (hj : -9223372036854775808 ≤ k2 ∧ k2 ≤ 9223372036854775807) (hn : -9223372036854775808 ≤ k3 ∧ k3 ≤ 9223372036854775807) :
    Calls Tryd.prog 14 #[.pointer (some ⟨q, 0, none⟩), .int .i64 k1, .int .i64 k2, .int .i64 k3] x fun r y => ∃ a' k c', r = .returned (.tuple #[.slice a' k c', .bool (rdC (e k1) k2 k3)]) ∧ Rd y a' k c' (gotC (e k1) k2 k3) ∧ Below x.heap.size x y ∧ Ob w y p b q o k0 k1 k2 k3 a m n c e := by
  have h' := h
  obtain ⟨s, d, h1, h2, h3, h4⟩ := h
  refine (rread_any h1.dm (ag_mo d) k1 k2 k3 hj hn).mono ?_
  rintro r y ⟨a', k, c', rfl, hb, hr, _⟩
  rw [rd_ct, by_ct, ct_mo, h1.de] at hr
  rw [rd_ct, ct_mo, h1.de]
  exact ⟨a', k, c', rfl, hr, hb, h'.on hb⟩
theorem Ob.bytes (h : Ob w x p b q o k0 k1 k2 k3 a m n c e) {l : List UInt8} (hr : Rd w a m n l) (hm : m ≤ 2000) :
    Calls Tryd.prog 16 #[.slice a m n] x fun r y => ∃ a' c', r = .returned (.slice a' m c') ∧ Rd y a' m c' l ∧ Ob w y p b q o k0 k1 k2 k3 a m n c e := by
  refine (mbytes_any x a m n l (hr.below h.bel (rd_low hr)) (by omega)).mono ?_
  rintro r y ⟨a', c', rfl, ho, hb⟩
  obtain ⟨_, _, hv, hrd, _⟩ := rd_of_owns ho
  cases hv
  exact ⟨a', c', rfl, hrd, h.on hb⟩
theorem wrEC_le (o : Option (List UInt8)) (j n : Int) : wrEC o j n ≤ 16 := by
  unfold wrEC
  split
  · omega
  · split <;> omega
theorem setE_le (k n : Int) : setE k n ≤ 16 := by unfold setE; split <;> omega
end Go.Proofs.YtbolncddklgecaaDoor
