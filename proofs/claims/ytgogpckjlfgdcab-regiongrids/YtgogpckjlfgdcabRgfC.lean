/- The document's row. -/
import Derived.Test.YtgogpckjlfgdcabRgfB
namespace Go.Proofs.Ytgogpckjlfgdcab
open Go Go.RowKit

/-- Numbers that may be added and taken. -/
structure Sm (r : Rc) : Prop where
  x : -16777216 ≤ r.x ∧ r.x ≤ 16777216
  y : -16777216 ≤ r.y ∧ r.y ≤ 16777216
  w : -33554432 ≤ r.w ∧ r.w ≤ 33554432
  h : -33554432 ≤ r.h ∧ r.h ≤ 33554432
theorem Sm.ok {r : Rc} (h : Sm r) : r.Ok := by
  obtain ⟨h1, h2, h3, h4⟩ := h
  exact ⟨by omega, by omega, by omega, by omega⟩

theorem CI.set {u : World} {b o q k : Nat} {y : Int} (h : CI u b o y) (hn : b ≠ q ∨ o ≠ k) (v : Value) : CI (u.setCell ⟨q, k, none⟩ v) b o y :=
  ⟨by have := h.lt; simpa [World.setCell] using this, by
    rw [World.cell?_setCell_other _ _ _ _ (fun e => by
      have e1 := congrArg Addr.block e
      have e2 := congrArg Addr.off e
      simp only at e1 e2
      omega)]
    exact h.c⟩
theorem CI.drewN {u : World} {b o : Nat} {y : Int} (h : CI u b o y) (q : Nat) : CI (u.drewN q) b o y := ⟨h.lt, h.c⟩

theorem rccs_last (D : List Rc) (r : Rc) (z : Int) : (rccs (D ++ [r])).set (D.length * 4 + 2) (.int .i64 z) = rccs (D ++ [⟨r.x, r.y, z, r.h⟩]) := by
  rw [rccs_append, rccs_append, List.set_append_right _ _ (by rw [rccs_length]; omega), rccs_length]
  congr 1
  rw [show D.length * 4 + 2 - D.length * 4 = 2 by omega]
  rfl
theorem OwC.setW {w u : World} {g n c : Nat} {D : List Rc} {r : Rc} (h : OwC w u (.slice (some ⟨g, 0, none⟩) n c) (D ++ [r])) (hn : n = D.length + 1) (z : Int) : OwC w (u.setCell ⟨g, D.length * 4 + 2, none⟩ (.int .i64 z)) (.slice (some ⟨g, 0, none⟩) n c) (D ++ [⟨r.x, r.y, z, r.h⟩]) := by
  have h1 := h.own
  have e : (D ++ [r]).length = n := by simp [hn]
  rw [e] at h1
  have hg := (h1.lt g rfl).1
  have h2 := (h1.stored (D.length * 4 + 2) (.int .i64 z)).1
  rw [rccs_last] at h2
  refine ⟨?_, h.bel.setCell (p := ⟨g, _, none⟩) hg _⟩
  rw [show (D ++ [(⟨r.x, r.y, z, r.h⟩ : Rc)]).length = n by simp [hn]]
  exact h2
theorem OwC.form {w u : World} {v : Value} {l : List Rc} (h : OwC w u v l) (hl : l ≠ []) : ∃ g c, v = .slice (some ⟨g, 0, none⟩) l.length c := by
  rcases h.own.2 with ⟨rfl, h0⟩ | ⟨g, cap, cur, rfl, _⟩
  · exact absurd (List.eq_nil_of_length_eq_zero h0) hl
  · exact ⟨g, cap, rfl⟩
theorem OwC.small {w u : World} {g n c : Nat} {l : List Rc} (h : OwC w u (.slice (some ⟨g, 0, none⟩) n c) l) (hn : l.length = n) : n ≤ c ∧ c ≤ 9223372036854775807 := by
  have h1 := h.own
  rw [hn] at h1
  rcases h1.2 with ⟨e, _⟩ | ⟨g', cap, cur, e, _, _, h2, h3, _⟩
  · cases e
  · cases e
    simp only [maxLen] at h3
    omega

theorem rstep_nil (F : Int → Bool) (y h : Int) {x : Int} (hx : F x = true) (x' : Int) : rstep F y h [] x x' = [⟨x, y, x' - x, h⟩] := by rw [rstep, if_neg (by rw [hx]; decide)]; rfl
theorem rstep_eq (F : Int → Bool) (y h : Int) (D : List Rc) (r : Rc) {x : Int} (hx : F x = true) (he : r.x + r.w = x) (x' : Int) : rstep F y h (D ++ [r]) x x' = D ++ [⟨r.x, r.y, x' - r.x, r.h⟩] := by
  rw [rstep, if_neg (by rw [hx]; decide), List.getLast?_concat]
  simp only
  rw [if_pos he, List.dropLast_concat]
theorem rstep_ne (F : Int → Bool) (y h : Int) (D : List Rc) (r : Rc) {x : Int} (hx : F x = true) (he : r.x + r.w ≠ x) (x' : Int) : rstep F y h (D ++ [r]) x x' = (D ++ [r]) ++ [⟨x, y, x' - x, h⟩] := by
  rw [rstep, if_neg (by rw [hx]; decide), List.getLast?_concat]
  simp only
  rw [if_neg he]

end Go.Proofs.Ytgogpckjlfgdcab
