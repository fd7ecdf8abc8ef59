/- Both pings, the program's and the document's, beside one another, and the call at hand. -/
import Derived.Test.YthoonceohipikaaPngB
import Derived.Test.YthoonceohipikaaStaA
namespace Go.Proofs.Ythoonceohipikaa
open Go Go.RowKit

/-- Both pings, made since w0: for o1 waits at p, for o2 at q. -/
structure B2 (w0 w : World) (p q : Nat) (o1 o2 : Option (Int × Int)) : Prop where
  bel : Below w0.heap.size w0 w
  lo : w0.heap.size ≤ p ∧ w0.heap.size ≤ q
  ne : p ≠ q
  p1 : Pn 43 w p o1
  p2 : Pn 27 w q o2
variable {w0 w u : World} {p q g : Nat} {o1 o2 o : Option (Int × Int)} {cs : Array Value}
theorem B2.on (h : B2 w0 w p q o1 o2) (hb : Below w.heap.size w u) : B2 w0 u p q o1 o2 := ⟨Below.on h.bel hb, h.lo, h.ne, h.p1.on hb, h.p2.on hb⟩
theorem B2.turn1 (h : B2 w0 w p q o1 o2) (hn : Pn 43 u p o) (hk : Kp [p] w u) : B2 w0 u p q o o2 :=
  ⟨h.bel.trans (hk.below h.bel.size (fun k hk => by
    rw [List.mem_singleton] at hk
    rw [hk]
    exact h.lo.1)), h.lo, h.ne, hn, h.p2.kp hk (by rw [List.mem_singleton]; exact fun e => h.ne e.symm)⟩
theorem B2.turn2 (h : B2 w0 w p q o1 o2) (hn : Pn 27 u q o) (hk : Kp [q] w u) : B2 w0 u p q o1 o :=
  ⟨h.bel.trans (hk.below h.bel.size (fun k hk => by
    rw [List.mem_singleton] at hk
    rw [hk]
    exact h.lo.2)), h.lo, h.ne, h.p1.kp hk (by rw [List.mem_singleton]; exact h.ne), hn⟩

/-- The same, with the call at hand in a block of its own. -/
structure Bo (w0 w : World) (p q : Nat) (o1 o2 : Option (Int × Int)) (g : Nat) (cs : Array Value) : Prop where
  b : B2 w0 w p q o1 o2
  oc : w.heap[g]? = some (.cells cs 29 (0, 0))
  ng : g ≠ p ∧ g ≠ q
theorem B2.bo (h : B2 w0 w p q o1 o2) (cs : Array Value) : Bo w0 (w.alloc (.cells cs 29)) p q o1 o2 w.heap.size cs :=
  ⟨h.on (bel_nw w _), heap_alloc_new w _, Nat.ne_of_gt h.p1.lt, Nat.ne_of_gt h.p2.lt⟩
theorem Bo.lt (h : Bo w0 w p q o1 o2 g cs) : g < w.heap.size := (Array.getElem?_eq_some_iff.1 h.oc).1
theorem Bo.on (h : Bo w0 w p q o1 o2 g cs) (hb : Below w.heap.size w u) : Bo w0 u p q o1 o2 g cs := ⟨h.b.on hb, (hb.block g h.lt).trans h.oc, h.ng⟩
theorem Bo.drew (h : Bo w0 w p q o1 o2 g cs) : Bo w0 w.drew p q o1 o2 g cs := h.on (Below.refl _ _).drew
theorem Bo.turn1 (h : Bo w0 w p q o1 o2 g cs) (hn : Pn 43 u p o) (hk : Kp [p] w u) : Bo w0 u p q o o2 g cs :=
  ⟨h.b.turn1 hn hk, hk.var h.oc (by rw [List.mem_singleton]; exact h.ng.1), h.ng⟩
theorem Bo.turn2 (h : Bo w0 w p q o1 o2 g cs) (hn : Pn 27 u q o) (hk : Kp [q] w u) : Bo w0 u p q o1 o g cs :=
  ⟨h.b.turn2 hn hk, hk.var h.oc (by rw [List.mem_singleton]; exact h.ng.2), h.ng⟩

theorem Bo.ask (h : Bo w0 w p q o1 o2 g cs) (s t : Int) (hs : I64 s) (ht : I64 t) :
    Calls Try.prog 12 #[.pointer (some ⟨p, 0, none⟩), .int .i64 s, .int .i64 t] w fun e w' => e = .returned (.bool (!pon o1)) ∧ Bo w0 w' p q (o1.or (some (s, t))) o2 g cs :=
  (pask_any h.b.p1 s t hs ht).mono fun _ _ ⟨h1, h2, h3⟩ => ⟨h1, h.turn1 h2 h3⟩
theorem Bo.rask (h : Bo w0 w p q o1 o2 g cs) (s t : Int) (hs : I64 s) (ht : I64 t) :
    Calls Try.prog 13 #[.pointer (some ⟨q, 0, none⟩), .int .i64 s, .int .i64 t] w fun e w' => e = .returned (.bool (!pon o2)) ∧ Bo w0 w' p q o1 (o2.or (some (s, t))) g cs :=
  (rpask_any h.b.p2 s t hs ht).mono fun _ _ ⟨h1, h2, h3⟩ => ⟨h1, h.turn2 h2 h3⟩
theorem Bo.pong (h : Bo w0 w p q o1 o2 g cs) (s : Int) :
    Calls Try.prog 8 #[.pointer (some ⟨p, 0, none⟩), .int .i64 s] w fun e w' => e = .returned (.bool (pon o1 && psr o1 == s)) ∧ Bo w0 w' p q (if pon o1 && psr o1 == s then none else o1) o2 g cs :=
  (ppong_any h.b.p1 s).mono fun _ _ ⟨h1, h2, h3⟩ => ⟨h1, h.turn1 h2 h3⟩
theorem Bo.rpong (h : Bo w0 w p q o1 o2 g cs) (s : Int) :
    Calls Try.prog 9 #[.pointer (some ⟨q, 0, none⟩), .int .i64 s] w fun e w' => e = .returned (.bool (pon o2 && psr o2 == s)) ∧ Bo w0 w' p q o1 (if pon o2 && psr o2 == s then none else o2) g cs :=
  (rppong_any h.b.p2 s).mono fun _ _ ⟨h1, h2, h3⟩ => ⟨h1, h.turn2 h2 h3⟩
theorem Bo.late (h : Bo w0 w p q o1 o2 g cs) (t : Int) (ht : I64 t) :
    Calls Try.prog 10 #[.pointer (some ⟨p, 0, none⟩), .int .i64 t] w fun e w' => e = .returned (.bool (plate o1 t)) ∧ Bo w0 w' p q o1 o2 g cs :=
  (plate_any h.b.p1 t ht).mono fun _ _ ⟨h1, h2⟩ => ⟨h1, by rw [h2]; exact h⟩
theorem Bo.rlate (h : Bo w0 w p q o1 o2 g cs) (t : Int) (ht : I64 t) :
    Calls Try.prog 11 #[.pointer (some ⟨q, 0, none⟩), .int .i64 t] w fun e w' => e = .returned (.bool (plate o2 t)) ∧ Bo w0 w' p q o1 o2 g cs :=
  (rplate_any h.b.p2 t ht).mono fun _ _ ⟨h1, h2⟩ => ⟨h1, by rw [h2]; exact h⟩
end Go.Proofs.Ythoonceohipikaa
