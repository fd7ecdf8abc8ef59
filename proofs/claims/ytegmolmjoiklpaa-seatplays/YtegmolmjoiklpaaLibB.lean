/- Slices of bools, as they come in: opened. Over any program. -/
import Derived.Test.YtegmolmjoiklpaaLibK
import Derived.Lib.SmallJoins
import Derived.Deep.Grids
namespace Go.Proofs.Ytegmolmjoiklpaa
open Go Go.ChangeShapes Go.WideShapes Go.ChangeAt Go.RowKit Go.Deep

/-- A slice whose first n elements are the bools t. -/
structure RdB (w : World) (a : Option Addr) (n c : Nat) (t : Nat → Bool) : Prop where
  le : n ≤ c
  max : c ≤ maxLen
  pl : 0 < n → ∃ b off, a = some ⟨b, off, none⟩ ∧ b < w.heap.size ∧ ∀ i, i < n → w.cell? ⟨b, off + i, none⟩ = some (.bool (t i))

theorem RdB.on {w u : World} {a : Option Addr} {n c : Nat} {t : Nat → Bool} (h : RdB w a n c t) (hb : Below w.heap.size w u) : RdB u a n c t :=
  ⟨h.le, h.max, fun hn => by
    obtain ⟨b, off, e, h1, h2⟩ := h.pl hn
    exact ⟨b, off, e, Nat.lt_of_lt_of_le h1 hb.size, fun i hi => by rw [hb.cell h1]; exact h2 i hi⟩⟩
theorem RdB.small {w : World} {a : Option Addr} {n c : Nat} {t : Nat → Bool} (h : RdB w a n c t) : n ≤ 9223372036854775807 ∧ c ≤ 9223372036854775807 := by
  have h1 := h.le
  have h2 := h.max
  simp only [maxLen] at h2
  omega

section
variable {H : Type} {enc : TypeId × Value → H} {P : Program} {W : World}
theorem open_boolsR {T E : TypeId} (hT : P.underlying T = some (.slice E)) (hE : P.underlying E = some .bool) (hc : P.cellsOf E = 1) {d : DataW H} {p : List MemPlace}
    {a : Option Addr} {n c : Nat} (h : DataW.Trod enc P W 0 (fun _ => true) true T (.slice a n c) d p) : ∃ t, RdB W a n c t := by
  obtain ⟨fuel, hf'⟩ := h
  rcases open_bools hT hE hc hf' with ⟨hcs, _⟩ | ⟨x, len, cap, B, hcs, _, hl, hm, _, hx⟩
  · simp [Value.cells] at hcs
    obtain ⟨rfl, rfl, rfl⟩ := hcs
    exact ⟨fun _ => false, Nat.le_refl _, Nat.zero_le _, fun h => absurd h (by omega)⟩
  · simp [Value.cells] at hcs
    obtain ⟨rfl, rfl, rfl⟩ := hcs
    refine ⟨B, hl, hm, fun hn => ?_⟩
    obtain ⟨b, off, spot⟩ := x
    have h0 := hx 0 (by omega)
    have hspot : spot = none := by simpa [Addr.add] using World.cell?_spot h0
    subst hspot
    refine ⟨b, off, rfl, ?_, fun i hi => ?_⟩
    · rw [Go.WideShapes.add_plain] at h0
      exact World.block_lt_of_cell? W _ h0
    · rw [← Go.WideShapes.add_plain]
      exact hx i (by omega)
end
end Go.Proofs.Ytegmolmjoiklpaa
