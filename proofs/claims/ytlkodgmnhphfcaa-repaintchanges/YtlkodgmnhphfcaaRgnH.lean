/- Slices of rectangles: read, and of a call's own. -/
import Derived.Test.YtlkodgmnhphfcaaRgnG
import Derived.Test.YtlkodgmnhphfcaaLibA
import Derived.Test.YtlkodgmnhphfcaaRectN
import Derived.Laws.OwnMore
import Derived.Deep.DeepCutAuto
import Derived.Deep.CutRange
namespace Go.Proofs.Ytlkodgmnhphfcaa
open Go Go.RowKit

theorem El.all {u : World} {b o : Nat} {r : Rc} (h : El u b o r) : u.cell? ⟨b, o, none⟩ = some (.int .i64 r.x) ∧ u.cell? ⟨b, o + 1, none⟩ = some (.int .i64 r.y) ∧ u.cell? ⟨b, o + 2, none⟩ = some (.int .i64 r.w) ∧ u.cell? ⟨b, o + 3, none⟩ = some (.int .i64 r.h) := ⟨h.c0, h.c1, h.c2, h.c3⟩
theorem El.drewN {u : World} {b o : Nat} {r : Rc} (h : El u b o r) (q : Nat) : El (u.drewN q) b o r := ⟨h.lt, h.c0, h.c1, h.c2, h.c3⟩

/-- A slice whose first n elements are the rectangles l. -/
structure RdC (w : World) (a : Option Addr) (n c : Nat) (l : List Rc) : Prop where
  len : l.length = n
  le : n ≤ c
  max : c ≤ maxLen
  hnil : a = none → c = 0
  pl : 0 < n → ∃ b off, a = some ⟨b, off, none⟩ ∧ b < w.heap.size ∧ ∀ j r, l[j]? = some r → El w b (off + j * 4) r
  ok : ∀ r ∈ l, r.Ok

theorem RdC.on {w u : World} {a : Option Addr} {n c : Nat} {l : List Rc} (h : RdC w a n c l) (hb : Below w.heap.size w u) : RdC u a n c l :=
  ⟨h.len, h.le, h.max, h.hnil, fun hn => by
    obtain ⟨b, off, e, h1, h2⟩ := h.pl hn
    exact ⟨b, off, e, Nat.lt_of_lt_of_le h1 hb.size, fun j r hr => (h2 j r hr).on hb⟩, h.ok⟩
theorem RdC.drewN {w : World} {a : Option Addr} {n c : Nat} {l : List Rc} (h : RdC w a n c l) (q : Nat) : RdC (w.drewN q) a n c l :=
  ⟨h.len, h.le, h.max, h.hnil, fun hn => by
    obtain ⟨b, off, e, h1, h2⟩ := h.pl hn
    exact ⟨b, off, e, h1, fun j r hr => (h2 j r hr).drewN q⟩, h.ok⟩
theorem RdC.nil (w : World) : RdC w none 0 0 [] := ⟨rfl, Nat.le_refl _, Nat.zero_le _, fun _ => rfl, fun h => absurd h (by omega), by simp⟩
theorem RdC.small {w : World} {a : Option Addr} {n c : Nat} {l : List Rc} (h : RdC w a n c l) : n ≤ 9223372036854775807 ∧ c ≤ 9223372036854775807 := by
  have h1 := h.le
  have h2 := h.max
  simp only [maxLen] at h2
  omega
theorem RdC.el {w : World} {a : Option Addr} {n c : Nat} {l : List Rc} (h : RdC w a n c l) {j : Nat} (hj : j < n) : ∃ b off r, a = some ⟨b, off, none⟩ ∧ b < w.heap.size ∧ l[j]? = some r ∧ r.Ok ∧ El w b (off + j * 4) r := by
  have hl := h.len
  obtain ⟨b, off, e, h1, h2⟩ := h.pl (by omega)
  have hr : l[j]? = some l[j] := List.getElem?_eq_getElem (by omega)
  exact ⟨b, off, _, e, h1, hr, h.ok _ (List.mem_of_getElem? hr), h2 j _ hr⟩

/-- A rectangle's cells. -/
def rcc (r : Rc) : List Value := [.int .i64 r.x, .int .i64 r.y, .int .i64 r.w, .int .i64 r.h]
def rccs (l : List Rc) : List Value := l.flatMap rcc
theorem rccs_length (l : List Rc) : (rccs l).length = l.length * 4 := by
  induction l with
  | nil => rfl
  | cons x l ih =>
    rw [rccs, List.flatMap_cons, List.length_append, List.length_cons]
    show 4 + (rccs l).length = _
    omega
theorem rccs_append (a b : List Rc) : rccs (a ++ b) = rccs a ++ rccs b := by simp [rccs]
theorem rccs_cons (r : Rc) (l : List Rc) : rccs (r :: l) = .int .i64 r.x :: .int .i64 r.y :: .int .i64 r.w :: .int .i64 r.h :: rccs l := rfl
theorem rccs_one (l : List Rc) : ∀ u ∈ rccs l, u.oneCell' = true := by
  intro u hu
  obtain ⟨x, _, hx⟩ := List.mem_flatMap.1 hu
  simp only [rcc, List.mem_cons, List.not_mem_nil, or_false] at hx
  rcases hx with rfl | rfl | rfl | rfl <;> rfl
theorem rccs_at (l : List Rc) (j : Nat) (x : Rc) (h : l[j]? = some x) : (rccs l)[j * 4]? = some (.int .i64 x.x) ∧ (rccs l)[j * 4 + 1]? = some (.int .i64 x.y) ∧ (rccs l)[j * 4 + 2]? = some (.int .i64 x.w) ∧ (rccs l)[j * 4 + 3]? = some (.int .i64 x.h) := by
  induction l generalizing j with
  | nil => simp at h
  | cons y l ih =>
    cases j with
    | zero =>
      simp only [List.getElem?_cons_zero, Option.some.injEq] at h
      subst h
      rw [rccs_cons]
      exact ⟨rfl, rfl, rfl, rfl⟩
    | succ j =>
      obtain ⟨h1, h2, h3, h4⟩ := ih j (by simpa using h)
      rw [rccs_cons, show (j + 1) * 4 = j * 4 + 1 + 1 + 1 + 1 by omega]
      simp only [List.getElem?_cons_succ]
      exact ⟨h1, h2, h3, h4⟩

theorem cells_of {w : World} {b off : Nat} {l : List Rc} (hc : ∀ j r, l[j]? = some r → El w b (off + j * 4) r) : ∀ j u, (rccs l)[j]? = some u → w.cell? ⟨b, off + j, none⟩ = some u := fun j u hu => by
  have hj : j < l.length * 4 := by
    rcases Nat.lt_or_ge j (l.length * 4) with h' | h'
    · exact h'
    · rw [List.getElem?_eq_none (by rw [rccs_length]; exact h')] at hu; cases hu
  obtain ⟨k, m, hm, rfl⟩ : ∃ k m, m < 4 ∧ j = k * 4 + m := ⟨j / 4, j % 4, by omega, by omega⟩
  have hr : l[k]? = some l[k] := List.getElem?_eq_getElem (by omega)
  obtain ⟨g1, g2, g3, g4⟩ := rccs_at l k _ hr
  obtain ⟨_, c0, c1, c2, c3⟩ := hc k _ hr
  obtain rfl | rfl | rfl | rfl : m = 0 ∨ m = 1 ∨ m = 2 ∨ m = 3 := by omega
  · rw [Nat.add_zero] at hu ⊢; rw [c0, ← hu, g1]
  · rw [← Nat.add_assoc, c1, ← hu, g2]
  · rw [← Nat.add_assoc, c2, ← hu, g3]
  · rw [← Nat.add_assoc, c3, ← hu, g4]

/-- What is appended by 'append(x, l...)'. -/
theorem RdC.src {P : Program} {w : World} {a : Option Addr} {n c : Nat} {l : List Rc} (h : RdC w a n c l) {t e : TypeId} (ht : P.underlying t = some (.slice e)) : Src P 4 t (.slice a n c) n (rccs l) w := by
  have h3 := h.len
  cases a with
  | none =>
    have h1 := h.hnil rfl
    have h2 := h.le
    obtain rfl : n = 0 := by omega
    obtain rfl : l = [] := List.eq_nil_of_length_eq_zero h3
    exact Src.ofNil w ht c
  | some x =>
    refine Src.ofSlice w ht x n c (rccs l) (by rw [rccs_length, h3]) (fun j u hu => ?_) (rccs_one l)
    rcases Nat.eq_zero_or_pos n with h0 | h0
    · obtain rfl : l = [] := List.eq_nil_of_length_eq_zero (by omega)
      simp [rccs] at hu
    · obtain ⟨b, off, e1, _, h2⟩ := h.pl h0
      cases e1
      rw [Go.WideShapes.add_plain]
      exact cells_of h2 j u hu

theorem el_of_owns {w : World} {base e n g c : Nat} {l : List Rc} (h : w.ownsRow base e 4 (.slice (some ⟨g, 0, none⟩) n c) n (rccs l)) : g < w.heap.size ∧ base ≤ g ∧ ∀ j r, l[j]? = some r → El w g (0 + j * 4) r := by
  have hg := h.lt g rfl
  have hl : l.length = n := by have := h.1; rw [rccs_length] at this; omega
  refine ⟨hg.2, hg.1, fun j r hr => ?_⟩
  obtain ⟨g1, g2, g3, g4⟩ := rccs_at l j r hr
  have hj : j < n := by
    rcases Nat.lt_or_ge j n with h' | h'
    · exact h'
    · rw [List.getElem?_eq_none (by omega)] at hr; cases hr
  rw [Nat.zero_add]
  exact ⟨hg.2, by rw [h.cellAt _ (by omega)]; exact g1, by rw [h.cellAt _ (by omega)]; exact g2, by rw [h.cellAt _ (by omega)]; exact g3, by rw [h.cellAt _ (by omega)]; exact g4⟩

theorem rdc_of_owns {w : World} {base e n : Nat} {v : Value} {l : List Rc} (h : w.ownsRow base e 4 v n (rccs l)) (ok : ∀ r ∈ l, r.Ok) : ∃ a c, v = .slice a n c ∧ RdC w a n c l := by
  have hl : l.length = n := by have := h.1; rw [rccs_length] at this; omega
  rcases h.2 with ⟨rfl, rfl⟩ | ⟨g, cap, cur, rfl, hb, hg, hn, hm, _, _⟩
  · obtain rfl : l = [] := List.eq_nil_of_length_eq_zero hl
    exact ⟨none, 0, rfl, RdC.nil w⟩
  · obtain ⟨h1, h2, h3⟩ := el_of_owns h
    exact ⟨some ⟨g, 0, none⟩, cap, rfl, hl, hn, hm, (fun h => by cases h), fun _ => ⟨g, 0, rfl, h1, h3⟩, ok⟩

theorem rdc_of_rdn {w : World} {a : Option Addr} {n c : Nat} {l : List (List Int)} (h : RdN 4 w a n c l) : RdC w a n c ((List.range n).map (rcOf l)) := by
  refine ⟨by simp, h.le, h.max, h.hnil, fun hn => ?_, fun r hr => ?_⟩
  · obtain ⟨b, off, rfl, _, he⟩ := h.el 0 hn
    refine ⟨b, off, rfl, he.lt, fun j r hr => ?_⟩
    rw [List.getElem?_map] at hr
    obtain ⟨k, hk, rfl⟩ := Option.map_eq_some_iff.1 hr
    have hj : j < n := by
      rcases Nat.lt_or_ge j n with h' | h'
      · exact h'
      · rw [List.getElem?_eq_none (by simpa using h')] at hk; cases hk
    rw [List.getElem?_range hj] at hk
    cases hk
    obtain ⟨b', off', e, _, he'⟩ := h.el j hj
    cases e
    exact he'
  · obtain ⟨j, hj, rfl⟩ := List.mem_map.1 hr
    obtain ⟨_, _, _, ok, _⟩ := h.el j (List.mem_range.1 hj)
    exact ok

theorem infoC : (Try.prog.info? 36).map (fun i => (i.zero, i.size, i.bytes)) = some (some (.agg #[.int .i64 0, .int .i64 0, .int .i64 0, .int .i64 0]), 4, 32) := by kernel_rfl
theorem infoI : (Try.prog.info? 3).map (fun i => (i.zero, i.size, i.bytes)) = some (some (.int .i64 0), 1, 8) := by kernel_rfl
theorem info3 {P : Program} {e : TypeId} {z : Value} {n m : Nat} (h : (P.info? e).map (fun i => (i.zero, i.size, i.bytes)) = some (some z, n, m)) : ∃ i, P.info? e = some i ∧ i.zero = some z ∧ i.size = n ∧ i.bytes = m := by
  obtain ⟨i, hi, hz⟩ := Option.map_eq_some_iff.1 h
  simp only [Prod.mk.injEq] at hz
  exact ⟨i, hi, hz.1, hz.2.1, hz.2.2⟩
theorem fits32 {need : Nat} (h : need ≤ 1000000000) : ∀ old, old < need → Builtin.nextslicecap need old * 32 ≤ 281474976710656 := fun old ho => by
  have := nextslicecap_near ho
  omega
theorem fitsI {need : Nat} (h : need ≤ 1000000000) : ∀ old, old < need → Builtin.nextslicecap need old * 8 ≤ 281474976710656 := fun old ho => by
  have := nextslicecap_near ho
  omega

/-- A slice of rectangles handed back. -/
def Ret (w : World) (l : List Rc) (e : Ending) (w' : World) : Prop := ∃ a c, e = .returned (.slice a l.length c) ∧ RdC w' a l.length c l ∧ Below w.heap.size w w'
end Go.Proofs.Ytlkodgmnhphfcaa
