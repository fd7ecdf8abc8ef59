/- A ping of the law's own, call by call; the document's example. -/
import Derived.Test.YthoonceohipikaaPngA
namespace Go.Proofs.Ythoonceohipikaa
open Go Go.RowKit

/-- A ping of the law's own, made since w0. -/
structure Pq (ty : Nat) (w0 w : World) (p : Nat) (o : Option (Int × Int)) : Prop where
  bel : Below w0.heap.size w0 w
  lo : w0.heap.size ≤ p
  pn : Pn ty w p o
variable {ty : Nat} {w0 w u : World} {p : Nat} {o : Option (Int × Int)}
theorem Pq.on (h : Pq ty w0 w p o) (hb : Below w.heap.size w u) : Pq ty w0 u p o := ⟨Below.on h.bel hb, h.lo, h.pn.on hb⟩
theorem Pq.turn {o' : Option (Int × Int)} (h : Pq ty w0 w p o) (hn : Pn ty u p o') (hk : Kp [p] w u) : Pq ty w0 u p o' :=
  ⟨h.bel.trans (hk.below h.bel.size (fun k hk => by
    rw [List.mem_singleton] at hk
    rw [hk]
    exact h.lo)), h.lo, hn⟩
theorem pqnew (w : World) : Calls Try.prog 6 #[] w fun e w' => e = .returned (.pointer (some ⟨w.heap.size, 0, none⟩)) ∧ Pq 43 w w' w.heap.size none :=
  (pnew_any w).mono fun _ _ ⟨h1, h2, h3⟩ => ⟨h1, h2, Nat.le_refl _, h3⟩
theorem Pq.ask (h : Pq 43 w0 w p o) (s t : Int) (hs : I64 s) (ht : I64 t) :
    Calls Try.prog 12 #[.pointer (some ⟨p, 0, none⟩), .int .i64 s, .int .i64 t] w fun e w' => e = .returned (.bool (!pon o)) ∧ Pq 43 w0 w' p (o.or (some (s, t))) ∧ Kp [p] w w' :=
  (pask_any h.pn s t hs ht).mono fun _ _ ⟨h1, h2, h3⟩ => ⟨h1, h.turn h2 h3, h3⟩
theorem Pq.pong (h : Pq 43 w0 w p o) (s : Int) :
    Calls Try.prog 8 #[.pointer (some ⟨p, 0, none⟩), .int .i64 s] w fun e w' => e = .returned (.bool (pon o && psr o == s)) ∧ Pq 43 w0 w' p (if pon o && psr o == s then none else o) ∧ Kp [p] w w' :=
  (ppong_any h.pn s).mono fun _ _ ⟨h1, h2, h3⟩ => ⟨h1, h.turn h2 h3, h3⟩
theorem Pq.waits (h : Pq 43 w0 w p o) :
    Calls Try.prog 14 #[.pointer (some ⟨p, 0, none⟩)] w fun e w' => e = .returned (.tuple #[.int .i64 (psr o), .bool (pon o)]) ∧ Pq 43 w0 w' p o ∧ Below w.heap.size w w' :=
  (pwaits_any h.pn).mono fun _ _ ⟨h1, q, h2⟩ => by
    have hb : RowKit.Below w.heap.size w (w.drewN q) := below_drewN (Below.refl _ _) q
    rw [h2]
    exact ⟨h1, h.on hb, hb⟩
theorem i64_of {z : Int} (h : -9223372036854775808 ≤ z ∧ z ≤ 9223372036854775807) : I64 z := h

set_option maxRecDepth 100000 in
theorem pawake_any (w : World) : Calls Try.prog 15 #[] w fun e w' => e = .returned (.bool true) ∧ Below w.heap.size w w' := by
  go_enter Try.func15, Try.ntmps15
  go_wp2_with fail
  refine (pqnew w).mono ?_
  rintro e w1 ⟨rfl, h1⟩
  generalize w.heap.size = p at *
  have HA := hid (h1.ask 5 1 (i64_of (by decide)) (i64_of (by decide)))
  clear h1
  go_wp2_with fail
  refine HA.out.mono ?_
  rintro e w2 ⟨rfl, h2, -⟩
  have HB := hid (plate_any h2.pn 4 (i64_of (by decide)))
  have HC := hid (plate_any h2.pn 5 (i64_of (by decide)))
  have HD := hid (h2.pong 5)
  clear h2 HA
  go_wp2_with fail
  refine HB.out.mono ?_
  rintro e u ⟨rfl, rfl⟩
  clear HB
  go_wp2_with fail
  refine HC.out.mono ?_
  rintro e u ⟨rfl, rfl⟩
  clear HC
  go_wp2_with fail
  refine HD.out.mono ?_
  rintro e w3 ⟨rfl, h3, -⟩
  clear HD
  have HE := hid (plate_any h3.pn 9 (i64_of (by decide)))
  have HB := hid h3.bel
  clear h3
  go_wp2_with fail
  refine HE.out.mono ?_
  rintro e u ⟨rfl, rfl⟩
  clear HE
  go_wp2
  go_ret
  exact ⟨rfl, HB.out⟩
end Go.Proofs.Ythoonceohipikaa
