/- A store of one's own, call by call. -/
import Derived.Test.YtnfenfleahennaaDoorPolE
namespace Go.Proofs.YtnfenfleahennaaDoor
open Go Go.RowKit

/-- The store that a call made first, and the world since. -/
structure Qs (w x : World) (p a b : Nat) (P : PL) (B : BL) : Prop where
  st : Pst w.heap.size x p a b P B
  bel : Below w.heap.size w x
  np : P.length < 900
  nb : B.length < 900

variable {w x y : World} {p a b : Nat} {P : PL} {B : BL} {es : List Addr}

theorem Qs.on (h : Qs w x p a b P B) (hb : Below x.heap.size x y) : Qs w y p a b P B := ⟨h.st.on hb, Below.on h.bel hb, h.np, h.nb⟩
theorem Qs.kpa (h : Qs w x p a b P B) {P' : PL} (ht : Pst w.heap.size y p a b P' B) (hk : Kp [a] x y) (hn : P'.length < 900) : Qs w y p a b P' B :=
  ⟨ht, h.bel.trans (hk.below h.bel.size (fun j hj => by simp only [List.mem_cons, List.not_mem_nil, or_false] at hj; rw [hj]; exact h.st.loa)), hn, h.nb⟩
theorem Qs.kpb (h : Qs w x p a b P B) {B' : BL} (ht : Pst w.heap.size y p a b P B') (hk : Kp [b] x y) (hn : B'.length < 900) : Qs w y p a b P B' :=
  ⟨ht, h.bel.trans (hk.below h.bel.size (fun j hj => by simp only [List.mem_cons, List.not_mem_nil, or_false] at hj; rw [hj]; exact h.st.lob)), h.np, hn⟩

theorem Qs.pool (h : Qs w x p a b P B) (hE : Errs w gerrs es) (id key size memory : Int) (hi : I64 id) (k : Nat) (P' : PL) (hk : poolE P id size memory = k) (hP : poolS P id key size memory = P') (hn : P'.length < 900) :
    Calls Tryd.prog 12 #[.pointer (some ⟨p, 0, none⟩), .int .i64 id, .int .i64 key, .int .i64 size, .int .i64 memory] x fun e y => e = .returned (erv es k) ∧ Qs w y p a b P' B ∧ Kp [a] x y := by
  refine (ppool_any (hE.below h.bel) h.st (Nat.lt_of_lt_of_le h.np (by decide)) id key size memory hi).mono ?_
  rintro e y ⟨rfl, ht, hk'⟩
  rw [hP] at ht
  rw [hk]
  exact ⟨rfl, h.kpa ht hk' hn, hk'⟩
theorem Qs.resize (h : Qs w x p a b P B) (hE : Errs w gerrs es) (id size memory : Int) (hi : I64 id) (k : Nat) (P' : PL) (hk : rszE P id size memory = k) (hP : rszS P id size memory = P') (hn : P'.length < 900) :
    Calls Tryd.prog 14 #[.pointer (some ⟨p, 0, none⟩), .int .i64 id, .int .i64 size, .int .i64 memory] x fun e y => e = .returned (erv es k) ∧ Qs w y p a b P' B ∧ Kp [a] x y := by
  refine (presize_any (hE.below h.bel) h.st (Nat.lt_of_lt_of_le h.np (by decide)) id size memory hi).mono ?_
  rintro e y ⟨rfl, ht, hk'⟩
  rw [hP] at ht
  rw [hk]
  exact ⟨rfl, h.kpa ht hk' hn, hk'⟩
theorem Qs.drop (h : Qs w x p a b P B) (hE : Errs w gerrs es) (id : Int) (hi : I64 id) (k : Nat) (P' : PL) (hk : dpE P id = k) (hP : rm P id = P') :
    Calls Tryd.prog 16 #[.pointer (some ⟨p, 0, none⟩), .int .i64 id] x fun e y => e = .returned (erv es k) ∧ Qs w y p a b P' B ∧ Kp [a] x y := by
  refine (pdrop_any (hE.below h.bel) h.st id hi).mono ?_
  rintro e y ⟨rfl, ht, hk'⟩
  have hn := rm_length P id
  rw [hP] at ht hn
  rw [hk]
  exact ⟨rfl, h.kpa ht hk' (Nat.lt_of_le_of_lt hn h.np), hk'⟩
theorem Qs.buffer (h : Qs w x p a b P B) (hE : Errs w gerrs es) (id pool off wd ht st fm : Int) (hi : I64 id) (hp : I64 pool) (h1 : I64 off) (h2 : I64 wd) (h3 : I64 ht) (h4 : I64 st) (k : Nat) (B' : BL) (hk : bufE P B id pool off wd ht st fm = k) (hB : bufS P B id pool off wd ht st fm = B') (hn : B'.length < 900) :
    Calls Tryd.prog 22 #[.pointer (some ⟨p, 0, none⟩), .int .i64 id, .int .i64 pool, .int .i64 off, .int .i64 wd, .int .i64 ht, .int .i64 st, .int .i64 fm] x fun e y => e = .returned (erv es k) ∧ Qs w y p a b P B' ∧ Kp [b] x y := by
  refine (pbuffer_any (hE.below h.bel) h.st (Nat.lt_of_lt_of_le h.nb (by decide)) id pool off wd ht st fm hi hp h1 h2 h3 h4).mono ?_
  rintro e y ⟨rfl, ht, hk'⟩
  rw [hB] at ht
  rw [hk]
  exact ⟨rfl, h.kpb ht hk' hn, hk'⟩
theorem Qs.dropb (h : Qs w x p a b P B) (hE : Errs w gerrs es) (id : Int) (hi : I64 id) (k : Nat) (B' : BL) (hk : dbE B id = k) (hB : dbS B id = B') (hn : B'.length < 900) :
    Calls Tryd.prog 18 #[.pointer (some ⟨p, 0, none⟩), .int .i64 id] x fun e y => e = .returned (erv es k) ∧ Qs w y p a b P B' ∧ Kp [b] x y := by
  refine (pdropb_any (hE.below h.bel) h.st (Nat.lt_of_lt_of_le h.nb (by decide)) id hi).mono ?_
  rintro e y ⟨rfl, ht, hk'⟩
  rw [hB] at ht
  rw [hk]
  exact ⟨rfl, h.kpb ht hk' hn, hk'⟩
theorem Qs.size (h : Qs w x p a b P B) (id : Int) (hi : I64 id) (z : Int) (hz : szOf P id = z) :
    Calls Tryd.prog 24 #[.pointer (some ⟨p, 0, none⟩), .int .i64 id] x fun e y => e = .returned (.int .i64 z) ∧ Qs w y p a b P B ∧ Below x.heap.size x y := by
  refine (psize_any h.st id hi).mono ?_
  rintro e y ⟨rfl, hb⟩
  rw [hz]
  exact ⟨rfl, h.on hb, hb⟩
theorem Qs.live (h : Qs w x p a b P B) (id : Int) (hi : I64 id) (z : Bool) (hz : liveOf B id = z) :
    Calls Tryd.prog 26 #[.pointer (some ⟨p, 0, none⟩), .int .i64 id] x fun e y => e = .returned (.bool z) ∧ Qs w y p a b P B ∧ Below x.heap.size x y := by
  refine (plive_any h.st id hi).mono ?_
  rintro e y ⟨rfl, hb⟩
  rw [hz]
  exact ⟨rfl, h.on hb, hb⟩
theorem Qs.info (h : Qs w x p a b P B) (id : Int) (hi : I64 id) :
    Calls Tryd.prog 35 #[.pointer (some ⟨p, 0, none⟩), .int .i64 id] x fun e y => e = .returned (infoV B id) ∧ Qs w y p a b P B ∧ Below x.heap.size x y := by
  refine (pinfo_any h.st id hi).mono ?_
  rintro e y ⟨rfl, hb⟩
  exact ⟨rfl, h.on hb, hb⟩
theorem qsnew (w : World) : Calls Tryd.prog 9 #[] w fun e y => e = .returned (.pointer (some ⟨w.heap.size + 2, 0, none⟩)) ∧ Qs w y (w.heap.size + 2) w.heap.size (w.heap.size + 1) [] [] := by
  refine (pnew_any w).mono ?_
  rintro e y ⟨rfl, hb, hM⟩
  exact ⟨rfl, hM _ (Nat.le_refl _), hb, by decide, by decide⟩
theorem Qs.awake (h : Qs w x p a b P B) (hE : Errs w gerrs es) : Calls Tryd.prog 32 #[] x fun e y => e = .returned (.bool true) ∧ Below w.heap.size w y := by
  refine (pawake_any x es (hE.below h.bel)).mono ?_
  rintro e y ⟨rfl, hb⟩
  exact ⟨rfl, Below.on h.bel hb⟩

/-- A buffer's numbers in a block. -/
abbrev Nb (x : World) (g : Nat) (q : Nf) : Prop := x.heap[g]? = some (.cells #[.int .i64 q.k, .int .i64 q.o, .int .i64 q.w, .int .i64 q.h, .int .i64 q.s, .int .i64 q.f] 60 (0, 0))
theorem nb_cells {x : World} {g : Nat} {q : Nf} (h : Nb x g q) : x.cell? ⟨g, 0, none⟩ = some (.int .i64 q.k) ∧ x.cell? ⟨g, 1, none⟩ = some (.int .i64 q.o) ∧ x.cell? ⟨g, 2, none⟩ = some (.int .i64 q.w) ∧ x.cell? ⟨g, 3, none⟩ = some (.int .i64 q.h) ∧ x.cell? ⟨g, 4, none⟩ = some (.int .i64 q.s) ∧ x.cell? ⟨g, 5, none⟩ = some (.int .i64 q.f) := by
  refine ⟨?_, ?_, ?_, ?_, ?_, ?_⟩
  all_goals rw [Lib.cell_of_heap h]; rfl
end Go.Proofs.YtnfenfleahennaaDoor
