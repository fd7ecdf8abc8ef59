/- Both tables side by side, and a call that is played. -/
import Derived.Test.YtaeeheaghfehaaaDoorIdsG
namespace Go.Proofs.YtaeeheaghfehaaaDoor
open Go Go.RowKit

/-- Both tables, the program's with s1, the document's with s2. -/
structure Bo (w x : World) (p b q : Nat) (s1 s2 : Int → Int × Int) : Prop where
  ts : Ts w x p b s1
  dt : Dt w.heap.size x q s2
  qb : q ≠ b
  qp : q ≠ p

/-- The call at o. -/
structure Oc (x : World) (o : Nat) (kd id f v : Int) : Prop where
  lt : o < x.heap.size
  c0 : x.cell? ⟨o, 0, none⟩ = some (.int .i64 kd)
  c1 : x.cell? ⟨o, 1, none⟩ = some (.int .i64 id)
  c2 : x.cell? ⟨o, 2, none⟩ = some (.int .i64 f)
  c3 : x.cell? ⟨o, 3, none⟩ = some (.int .i64 v)

theorem Oc.kp {x y : World} {o : Nat} {kd id f v : Int} {X : List Nat} (h : Oc x o kd id f v) (hk : Kp X x y) (hn : o ∉ X) : Oc y o kd id f v :=
  ⟨Nat.lt_of_lt_of_le h.lt hk.size, hk.cell h.c0 hn, hk.cell h.c1 hn, hk.cell h.c2 hn, hk.cell h.c3 hn⟩

/-- Both, and the call. -/
structure Ob (w x : World) (p b q o : Nat) (kd id f v : Int) (s1 s2 : Int → Int × Int) : Prop where
  bo : Bo w x p b q s1 s2
  oc : Oc x o kd id f v
  ob : o ≠ b
  oq : o ≠ q

variable {w x : World} {p b q o : Nat} {kd id f v : Int} {s1 s2 : Int → Int × Int} {es : List Addr}

theorem Ob.on (h : Ob w x p b q o kd id f v s1 s2) {y : World} (hb : Below x.heap.size x y) : Ob w y p b q o kd id f v s1 s2 :=
  ⟨⟨h.bo.ts.on hb, h.bo.dt.on hb, h.bo.qb, h.bo.qp⟩, h.oc.kp (kp_of_below hb []) (by simp), h.ob, h.oq⟩
theorem Ob.mine (h : Ob w x p b q o kd id f v s1 s2) {y : World} {s : Int → Int × Int} (ht : Ts w y p b s) (hk : Kp [b] x y) : Ob w y p b q o kd id f v s s2 :=
  ⟨⟨ht, h.bo.dt.kept hk (by simpa using h.bo.qb), h.bo.qb, h.bo.qp⟩, h.oc.kp hk (by simpa using h.ob), h.ob, h.oq⟩
theorem Ob.its (h : Ob w x p b q o kd id f v s1 s2) {y : World} {s : Int → Int × Int} (ht : Dt w.heap.size y q s) (hk : Kp [q] x y) : Ob w y p b q o kd id f v s1 s :=
  ⟨⟨⟨h.bo.ts.tb.kept hk (by simpa using Ne.symm h.bo.qp) (by simpa using Ne.symm h.bo.qb), h.bo.ts.bel.trans (hk.below h.bo.ts.bel.size (fun j hj => by simp only [List.mem_cons, List.not_mem_nil, or_false] at hj; rw [hj]; exact ht.lo))⟩, ht, h.bo.qb, h.bo.qp⟩, h.oc.kp hk (by simpa using h.oq), h.ob, h.oq⟩
theorem Ob.drew (h : Ob w x p b q o kd id f v s1 s2) : Ob w x.drew p b q o kd id f v s1 s2 := h.on (Below.refl _ _).drew

theorem Ob.drop (h : Ob w x p b q o kd id f v s1 s2) (hE : Errs w gerrs es) (hi : -9223372036854775808 ≤ id ∧ id ≤ 9223372036854775807) :
    Calls Tryd.prog 10 #[.pointer (some ⟨p, 0, none⟩), .int .i64 id] x fun e y => e = .returned (erv es (dropE s1 id)) ∧ Ob w y p b q o kd id f v (dropS s1 id) s2 := by
  refine (h.bo.ts.drop hE id hi).mono ?_
  rintro e y ⟨rfl, ht, hk⟩
  exact ⟨rfl, h.mine ht hk⟩
theorem Ob.add (h : Ob w x p b q o kd id f v s1 s2) (hE : Errs w gerrs es) (hi : -9223372036854775808 ≤ id ∧ id ≤ 9223372036854775807) :
    Calls Tryd.prog 14 #[.pointer (some ⟨p, 0, none⟩), .int .i64 id, .int .i64 f, .int .i64 v] x fun e y => e = .returned (erv es (addE s1 id f v)) ∧ Ob w y p b q o kd id f v (addS s1 id f v) s2 := by
  refine (h.bo.ts.add hE id f v hi).mono ?_
  rintro e y ⟨rfl, ht, hk⟩
  exact ⟨rfl, h.mine ht hk⟩
theorem Ob.want (h : Ob w x p b q o kd id f v s1 s2) (hE : Errs w gerrs es) (hi : -9223372036854775808 ≤ id ∧ id ≤ 9223372036854775807) :
    Calls Tryd.prog 12 #[.pointer (some ⟨p, 0, none⟩), .int .i64 id, .int .i64 f] x fun e y => e = .returned (erv es (wantE s1 id f)) ∧ Ob w y p b q o kd id f v s1 s2 := by
  refine (h.bo.ts.want hE id f hi).mono ?_
  rintro e y ⟨rfl, _, hb⟩
  exact ⟨rfl, h.on hb⟩
theorem Ob.kind (h : Ob w x p b q o kd id f v s1 s2) (hE : Errs w gerrs es) (k : Nat) (hk : k ≤ 16) :
    Calls Tryd.prog 9 #[erv es k] x fun e y => e = .returned (.int .i64 k) ∧ Ob w y p b q o kd id f v s1 s2 := by
  refine (h.bo.ts.kind hE k hk).mono ?_
  rintro e y ⟨rfl, _, hb⟩
  exact ⟨rfl, h.on hb⟩
theorem Ob.rdrop (h : Ob w x p b q o kd id f v s1 s2) :
    Calls Tryd.prog 11 #[.pointer (some ⟨q, 0, none⟩), .int .i64 id] x fun e y => e = .returned (.int .i64 (dropE s2 id : Nat)) ∧ Ob w y p b q o kd id f v s1 (dropS s2 id) := by
  refine (rdrop_any _ x q s2 h.bo.dt id).mono ?_
  rintro e y ⟨rfl, ht, hk⟩
  exact ⟨rfl, h.its ht hk⟩
theorem Ob.radd (h : Ob w x p b q o kd id f v s1 s2) :
    Calls Tryd.prog 15 #[.pointer (some ⟨q, 0, none⟩), .int .i64 id, .int .i64 f, .int .i64 v] x fun e y => e = .returned (.int .i64 (addE s2 id f v : Nat)) ∧ Ob w y p b q o kd id f v s1 (addS s2 id f v) := by
  refine (radd_any _ x q s2 h.bo.dt id f v).mono ?_
  rintro e y ⟨rfl, ht, hk⟩
  exact ⟨rfl, h.its ht hk⟩
theorem Ob.rwant (h : Ob w x p b q o kd id f v s1 s2) :
    Calls Tryd.prog 13 #[.pointer (some ⟨q, 0, none⟩), .int .i64 id, .int .i64 f] x fun e y => e = .returned (.int .i64 (wantE s2 id f : Nat)) ∧ Ob w y p b q o kd id f v s1 s2 := by
  refine (rwant_any _ x q s2 h.bo.dt id f).mono ?_
  rintro e y ⟨rfl, hb⟩
  exact ⟨rfl, h.on hb⟩
theorem Ob.at_ (h : Ob w x p b q o kd id f v s1 s2) :
    Calls Tryd.prog 17 #[.pointer (some ⟨q, 0, none⟩), .int .i64 id] x fun e y => e = .returned (.agg #[.int .i64 (s2 id).1, .int .i64 (s2 id).2]) ∧ Ob w y p b q o kd id f v s1 s2 := by
  refine (rat_any _ x q s2 h.bo.dt id).mono ?_
  rintro e y ⟨rfl, hb⟩
  exact ⟨rfl, h.on hb⟩
theorem Ob.face (h : Ob w x p b q o kd id f v s1 s2) (hi : -9223372036854775808 ≤ id ∧ id ≤ 9223372036854775807) :
    Calls Tryd.prog 16 #[.pointer (some ⟨p, 0, none⟩), .int .i64 id] x fun e y => e = .returned (.int .i64 (s1 id).1) ∧ Ob w y p b q o kd id f v s1 s2 := by
  refine (face_any _ x p b s1 h.bo.ts.tb id hi).mono ?_
  rintro e y ⟨rfl, rfl⟩
  exact ⟨rfl, h⟩
theorem Ob.version (h : Ob w x p b q o kd id f v s1 s2) (hi : -9223372036854775808 ≤ id ∧ id ≤ 9223372036854775807) :
    Calls Tryd.prog 18 #[.pointer (some ⟨p, 0, none⟩), .int .i64 id] x fun e y => e = .returned (.int .i64 (s1 id).2) ∧ Ob w y p b q o kd id f v s1 s2 := by
  refine (version_any _ x p b s1 h.bo.ts.tb id hi).mono ?_
  rintro e y ⟨rfl, rfl⟩
  exact ⟨rfl, h⟩

theorem Bo.on (h : Bo w x p b q s1 s2) {y : World} (hb : Below x.heap.size x y) : Bo w y p b q s1 s2 := ⟨h.ts.on hb, h.dt.on hb, h.qb, h.qp⟩
theorem rdz_row {w : World} {base e n c : Nat} {a : Option Addr} {zs : List Int} (h : w.ownsRow base e 1 (.slice a n c) n (zs.map encZ)) : RdZ w a n zs := by
  obtain ⟨a', c', hv, hz⟩ := rdz_of h
  simp only [Value.slice.injEq, true_and] at hv
  obtain ⟨rfl, rfl⟩ := hv
  exact hz

theorem dropE_le (s : Int → Int × Int) (id : Int) : dropE s id ≤ 16 := by unfold dropE; split <;> omega
theorem wantE_le (s : Int → Int × Int) (id f : Int) : wantE s id f ≤ 16 := by unfold wantE; split <;> omega
theorem addE_le (s : Int → Int × Int) (id f v : Int) : addE s id f v ≤ 16 := by unfold addE; split <;> (try split) <;> omega
end Go.Proofs.YtaeeheaghfehaaaDoor
