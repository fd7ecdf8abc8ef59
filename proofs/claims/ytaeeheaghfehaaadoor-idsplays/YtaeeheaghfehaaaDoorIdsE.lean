/- A table of one's own, call by call. -/
import Derived.Test.YtaeeheaghfehaaaDoorIdsD
import Derived.Test.YtaeeheaghfehaaaDoorKindA
namespace Go.Proofs.YtaeeheaghfehaaaDoor
open Go Go.RowKit

theorem E2.of {w : World} {es : List Addr} (h : Errs w gerrs es) : E2 w es := by
  have each : ∀ i g, gerrs[i]? = some g → w.cell? ⟨g, 0, none⟩ = some (erv es (i + 1)) := fun i g hg => by
    have hl : i < es.length := by
      rw [h.len]
      exact (List.getElem?_eq_some_iff.1 hg).1
    have := (h.each i g _ hg (List.getElem?_eq_getElem hl)).1
    rw [this, erv, List.getD, List.getElem?_eq_getElem hl]
    rfl
  exact ⟨each 0 _ rfl, each 4 _ rfl⟩

/-- The table that a call made first, and the world since. -/
structure Ts (w wr : World) (p b : Nat) (s : Int → Int × Int) : Prop where
  tb : Tb w.heap.size wr p b s
  bel : Below w.heap.size w wr

variable {w wr : World} {p b : Nat} {s : Int → Int × Int} {es : List Addr}

theorem Ts.on (h : Ts w wr p b s) {u : World} (hb : Below wr.heap.size wr u) : Ts w u p b s := ⟨h.tb.on hb, Below.on h.bel hb⟩
theorem Ts.kp (h : Ts w wr p b s) {u : World} {s' : Int → Int × Int} (ht : Tb w.heap.size u p b s') (hk : Kp [b] wr u) : Ts w u p b s' :=
  ⟨ht, h.bel.trans (hk.below h.bel.size (fun j hj => by simp only [List.mem_cons, List.not_mem_nil, or_false] at hj; rw [hj]; exact h.tb.lob))⟩
theorem Ts.add (h : Ts w wr p b s) (hE : Errs w gerrs es) (id f v : Int) (hi : -9223372036854775808 ≤ id ∧ id ≤ 9223372036854775807) :
    Calls Tryd.prog 14 #[.pointer (some ⟨p, 0, none⟩), .int .i64 id, .int .i64 f, .int .i64 v] wr fun e w' => e = .returned (erv es (addE s id f v)) ∧ Ts w w' p b (addS s id f v) ∧ Kp [b] wr w' := by
  refine (add_any _ wr es (E2.of (hE.below h.bel)) _ _ s h.tb id f v hi).mono ?_
  rintro e w' ⟨rfl, ht, hk⟩
  exact ⟨rfl, h.kp ht hk, hk⟩
theorem Ts.drop (h : Ts w wr p b s) (hE : Errs w gerrs es) (id : Int) (hi : -9223372036854775808 ≤ id ∧ id ≤ 9223372036854775807) :
    Calls Tryd.prog 10 #[.pointer (some ⟨p, 0, none⟩), .int .i64 id] wr fun e w' => e = .returned (erv es (dropE s id)) ∧ Ts w w' p b (dropS s id) ∧ Kp [b] wr w' := by
  refine (drop_any _ wr es (E2.of (hE.below h.bel)) _ _ s h.tb id hi).mono ?_
  rintro e w' ⟨rfl, ht, hk⟩
  exact ⟨rfl, h.kp ht hk, hk⟩
theorem Ts.want (h : Ts w wr p b s) (hE : Errs w gerrs es) (id f : Int) (hi : -9223372036854775808 ≤ id ∧ id ≤ 9223372036854775807) :
    Calls Tryd.prog 12 #[.pointer (some ⟨p, 0, none⟩), .int .i64 id, .int .i64 f] wr fun e w' => e = .returned (erv es (wantE s id f)) ∧ Ts w w' p b s ∧ Below wr.heap.size wr w' := by
  refine (want_any _ wr es (E2.of (hE.below h.bel)) _ _ s h.tb id f hi).mono ?_
  rintro e w' ⟨rfl, hb⟩
  exact ⟨rfl, h.on hb, hb⟩
theorem Ts.kind (h : Ts w wr p b s) (hE : Errs w gerrs es) (k : Nat) (hk : k ≤ 16) :
    Calls Tryd.prog 9 #[erv es k] wr fun e w' => e = .returned (.int .i64 k) ∧ Ts w w' p b s ∧ Below wr.heap.size wr w' := by
  refine (kind_erv wr es (hE.below h.bel) k hk).mono ?_
  rintro e w' ⟨rfl, hb⟩
  exact ⟨rfl, h.on hb, hb⟩
theorem Ts.awake (h : Ts w wr p b s) (hE : Errs w gerrs es) : Calls Tryd.prog 23 #[] wr fun e w' => e = .returned (.bool true) ∧ Below w.heap.size w w' := by
  refine (awake6_any wr es (E2.of (hE.below h.bel))).mono ?_
  rintro e w' ⟨rfl, hb⟩
  exact ⟨rfl, Below.on h.bel hb⟩
theorem Ts.all (h : Ts w wr p b s) : Calls Tryd.prog 21 #[.pointer (some ⟨p, 0, none⟩)] wr fun e w' => ∃ a c, e = .returned (.slice a (keysOf s).length c) ∧ w'.ownsRow wr.heap.size 3 1 (.slice a (keysOf s).length c) (keysOf s).length ((keysOf s).map encZ) ∧ Ts w w' p b s ∧ Below wr.heap.size wr w' := by
  refine (all_any _ wr _ _ s h.tb).mono ?_
  rintro e w' ⟨v, rfl, hr, hb⟩
  obtain ⟨a, c, rfl, _⟩ := ints_of_owns hr
  exact ⟨a, c, rfl, hr, h.on hb, hb⟩
theorem Ts.of (h : Ts w wr p b s) (face : Int) : Calls Tryd.prog 22 #[.pointer (some ⟨p, 0, none⟩), .int .i64 face] wr fun e w' => ∃ a c, e = .returned (.slice a (ofOf s face).length c) ∧ w'.ownsRow wr.heap.size 3 1 (.slice a (ofOf s face).length c) (ofOf s face).length ((ofOf s face).map encZ) ∧ Ts w w' p b s ∧ Below wr.heap.size wr w' := by
  refine (of_any _ wr _ _ s h.tb face).mono ?_
  rintro e w' ⟨v, rfl, hr, hb⟩
  obtain ⟨a, c, rfl, _⟩ := ints_of_owns hr
  exact ⟨a, c, rfl, hr, h.on hb, hb⟩
end Go.Proofs.YtaeeheaghfehaaaDoor
