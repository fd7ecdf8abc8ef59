/- Answers as slices and errors; slices that stay. -/
import Derived.Test.YtfmlmkcgneiadaaDoorOrdH
import Derived.Test.YtfmlmkcgneiadaaDoorOrdG
namespace Go.Proofs.YtfmlmkcgneiadaaDoor
open Go Go.RowKit

/-- Slices of numbers that are read since; the call began in w. -/
structure Sty (w u : World) (L : List (Option Addr × Nat × Nat × List Int)) : Prop where
  rd : ∀ x ∈ L, Rz u x.1 x.2.1 x.2.2.1 x.2.2.2
  bel : Below w.heap.size w u
theorem Sty.on {w u u' : World} {L : List (Option Addr × Nat × Nat × List Int)} (h : Sty w u L) (hb : Below u.heap.size u u') : Sty w u' L := ⟨fun x hx => (h.rd x hx).on hb, Below.on h.bel hb⟩
theorem Sty.drewN {w u : World} {L : List (Option Addr × Nat × Nat × List Int)} (h : Sty w u L) (q : Nat) : Sty w (u.drewN q) L := h.on (below_drewN (Below.refl _ _) q)
theorem Sty.add {w u u' : World} {L : List (Option Addr × Nat × Nat × List Int)} (h : Sty w u L) (hb : Below u.heap.size u u') {a : Option Addr} {n c : Nat} {l : List Int} (hr : Rz u' a n c l) : Sty w u' ((a, n, c, l) :: L) :=
  ⟨fun x hx => by
    rcases List.mem_cons.1 hx with rfl | hx
    · exact hr
    · exact (h.rd x hx).on hb, Below.on h.bel hb⟩
theorem Sty.one {w : World} {a : Option Addr} {n c : Nat} {l : List Int} (hr : Rz w a n c l) : Sty w w [(a, n, c, l)] :=
  ⟨fun x hx => by
    simp only [List.mem_singleton] at hx
    subst hx
    exact hr, Below.refl _ _⟩

theorem besr {w w' : World} {p : Addr} {r : Option (List Int)} {e : Ending} (h : BesR w p r e w') : ∃ a n c, e = .returned (.tuple #[.slice a n c, pe p r.isNone]) ∧ Rz w' a n c (r.getD []) ∧ Below w.heap.size w w' := by
  cases r with
  | none =>
    obtain ⟨rfl, hb⟩ := h
    exact ⟨none, 0, 0, rfl, Rz.nil w', hb⟩
  | some m =>
    obtain ⟨v, rfl, ho⟩ := h
    obtain ⟨a, c, rfl, hr, -⟩ := ho.rd
    exact ⟨a, _, c, rfl, hr, ho.bel⟩
/-- An error's number. -/
def kz : Bool → Int
  | true => 11
  | false => 0
theorem putr {w w' : World} {r : Option (List Int)} {e : Ending} (h : PutR w r e w') : ∃ a n c, e = .returned (.tuple #[.slice a n c, .int .i64 (kz r.isNone)]) ∧ Rz w' a n c (r.getD []) ∧ Below w.heap.size w w' := by
  cases r with
  | none =>
    obtain ⟨rfl, hb⟩ := h
    exact ⟨none, 0, 0, rfl, Rz.nil w', hb⟩
  | some m =>
    obtain ⟨v, rfl, ho⟩ := h
    obtain ⟨a, c, rfl, hr, -⟩ := ho.rd
    exact ⟨a, _, c, rfl, hr, ho.bel⟩
theorem kind_pe {w : World} {es : List Addr} (hE : Errs w gerrs es) {p : Addr} (hp : es[10]? = some p) (q : Bool) :
    Calls Tryd.prog 18 #[pe p q] w fun e w' => e = .returned (.int .i64 (kz q)) ∧ Below w.heap.size w w' := by
  cases q with
  | true => exact kind_any w es hE 10 p hp
  | false => exact kind_nil w es hE
/-- What a call of its own hands back, read. -/
theorem owz_rd {w w' : World} {e : Ending} {l : List Int} (h : ∃ v, e = .returned v ∧ OwZ w w' v l) : ∃ a c, e = .returned (.slice a l.length c) ∧ Rz w' a l.length c l ∧ Below w.heap.size w w' := by
  obtain ⟨v, rfl, ho⟩ := h
  obtain ⟨a, c, rfl, hr, -⟩ := ho.rd
  exact ⟨a, c, rfl, hr, ho.bel⟩
end Go.Proofs.YtfmlmkcgneiadaaDoor
