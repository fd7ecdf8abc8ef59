/- Slices of slices of numbers, as they come in: opened. -/
import Derived.Test.YtmihmajhfoghpaaLibA
import Derived.Lib.SmallJoins
import Derived.ProofKit
import Derived.OpenShut
import Derived.ChangeOld
import Derived.SizedLaws
import Derived.Test.YtmihmajhfoghpaaProg
namespace Go.Proofs.Ytmihmajhfoghpaa
open Go Go.ChangeShapes Go.WideShapes Go.ChangeAt Go.RowKit Go.Deep

/-- A slice whose first n elements are slices of numbers, L. -/
structure RdL (w : World) (a : Option Addr) (n c : Nat) (L : List (List Int)) : Prop where
  len : L.length = n
  le : n ≤ c
  max : c ≤ maxLen
  hnil : a = none → c = 0
  each : ∀ x, a = some x → ∀ j b, L[j]? = some b → ∃ a' n' c', w.cell? (x.add j) = some (.slice a' n' c') ∧ RdI .i64 w a' n' c' b

theorem RdL.at_ {w : World} {a : Option Addr} {n c : Nat} {L : List (List Int)} (h : RdL w a n c L) (j : Nat) (hj : j < n) : ∃ b off l a' n' c', a = some ⟨b, off, none⟩ ∧ b < w.heap.size ∧ w.cell? ⟨b, off + j, none⟩ = some (.slice a' n' c') ∧ RdI .i64 w a' n' c' l := by
  have hl := h.len
  obtain ⟨l, hL⟩ : ∃ l, L[j]? = some l := ⟨_, List.getElem?_eq_getElem (by omega)⟩
  cases a with
  | none => have := h.hnil rfl; have := h.le; omega
  | some x =>
    obtain ⟨b, off, spot⟩ := x
    obtain ⟨a', n', c', h1, h2⟩ := h.each _ rfl j l hL
    have hspot : spot = none := by
      obtain ⟨l0, hL0⟩ : ∃ l, L[0]? = some l := ⟨_, List.getElem?_eq_getElem (by omega)⟩
      obtain ⟨_, _, _, h0, _⟩ := h.each _ rfl 0 l0 hL0
      simpa [Addr.add] using World.cell?_spot h0
    subst hspot
    rw [Go.WideShapes.add_plain] at h1
    exact ⟨b, off, l, a', n', c', rfl, World.block_lt_of_cell? w _ h1, h1, h2⟩

variable {H : Type} {enc : TypeId × Value → H} {W : World} {d : DataW H} {p : List MemPlace}

set_option maxRecDepth 100000 in
/-- [][]int. -/
theorem open_introws {a : Option Addr} {n c : Nat} (h : DataW.Trod enc Try.prog W 0 (fun _ => true) true 22 (.slice a n c) d p) : ∃ L, RdL W a n c L := by
  obtain ⟨fuel, hf⟩ := h
  rcases open_slice1 Try.underlying22 (by kernel_rfl) hf with ⟨hcs, _⟩ | ⟨x, len, cap, m, k, V, D, Pl, hcs, hb, hl, hm, hmm, hx, hV⟩
  · simp [Value.cells] at hcs
    obtain ⟨rfl, rfl, rfl⟩ := hcs
    exact ⟨[], rfl, Nat.le_refl _, Nat.zero_le _, fun _ => rfl, fun _ h => by cases h⟩
  · simp [Value.cells] at hcs
    obtain ⟨rfl, rfl, rfl⟩ := hcs
    simp only [Prod.mk.injEq] at hx
    obtain ⟨rfl, _⟩ := hx
    simp only [if_true] at hmm
    subst hmm
    have each : ∀ i, i < n → ∃ b : List Int, ∃ a' n' c', W.cell? (x.add i) = some (.slice a' n' c') ∧ RdI .i64 W a' n' c' b := fun i hi => by
      obtain ⟨h1, h2⟩ := hV i (by omega)
      rcases open_ints Try.underlying26 Try.underlying3 (by kernel_rfl) h2 with ⟨hcs, _⟩ | ⟨y, l', c', zs, hcs, _, hl', hm', hz, hD, hcell, hwz⟩
      · simp only [List.cons.injEq, and_true] at hcs
        rw [hcs] at h1
        exact ⟨[], none, 0, 0, h1, RdI.nil _ W⟩
      · simp only [List.cons.injEq, and_true] at hcs
        rw [hcs] at h1
        have hz1 : zs.length = c' := by simpa using hz
        exact ⟨_, _, _, _, h1, RdI.ofRow hl' hm' (by rw [hz1, Nat.mul_one]) hcell hwz⟩
    obtain ⟨f, hfn⟩ := choose_lt (α := List Int) each
    refine ⟨(List.range n).map f, by simp, hl, hm, (fun h => by cases h), fun y hy j b hj => ?_⟩
    cases hy
    rw [List.getElem?_map] at hj
    obtain ⟨i, hi, rfl⟩ := Option.map_eq_some_iff.1 hj
    have hlt : j < n := by
      rcases Nat.lt_or_ge j n with h' | h'
      · exact h'
      · rw [List.getElem?_eq_none (by simpa using h')] at hi; cases hi
    rw [List.getElem?_range hlt] at hi
    cases hi
    exact hfn j hlt
end Go.Proofs.Ytmihmajhfoghpaa
