/- Regions within a grid; a rectangle that is a row of one: for region and canvas alike. -/
import Derived.Test.YtlkodgmnhphfcaaRgnR
namespace Go.Proofs.Ytlkodgmnhphfcaa
open Go Go.RowKit

/-- A region whose edges are among p across and p down. -/
structure Gd (p : Nat) (l : List Rc) : Prop where
  reg : Reg l
  grid : ∃ X Y, Grid X Y l ∧ X.length ≤ p ∧ Y.length ≤ p
theorem Gd.len {p : Nat} {l : List Rc} (h : Gd p l) : l.length ≤ p * p := by
  obtain ⟨X, Y, g, hx, hy⟩ := h.grid
  exact Nat.le_trans (grid_len h.reg.bands g) (Nat.mul_le_mul hx hy)
theorem gd_both {p q : Nat} {f : Bool → Bool → Bool} {a b : List Rc} (ha : Gd p a) (hb : Gd q b) (hf : f false false = false) : Gd (p + q) (mk f a b) := by
  obtain ⟨X, Y, g, hx, hy⟩ := ha.grid
  obtain ⟨X', Y', g', hx', hy'⟩ := hb.grid
  refine ⟨(mk_all hf ha.reg.ck hb.reg.ck).1, X ++ X', Y ++ Y', grid_mk hf ha.reg.ck hb.reg.ck (g.mono (fun x h => by simp [h]) (fun x h => by simp [h])) (g'.mono (fun x h => by simp [h]) (fun x h => by simp [h])), by rw [List.length_append]; omega, by rw [List.length_append]; omega⟩
theorem mkp {f : Bool → Bool → Bool} (hf : f false false = false) {a b : List Rc} (ha : Reg a) (hb : Reg b) (x y : Int) : pt (mk f a b) x y = f (pt a x y) (pt b x y) := (mk_all hf ha.ck hb.ck).2.1 x y
theorem union_reg {a a' : Option Addr} {n c n' c' p q : Nat} {l m : List Rc} {w : World} (h : RdC w a n c l) (h' : RdC w a' n' c' m) (hl : Gd p l) (hm : Gd q m) (hn : p * p + q * q ≤ 4096) : Calls Try.prog 44 #[.slice a n c, .slice a' n' c'] w (Ret w (mk or l m)) := by
  rw [← unn_reg hl.reg hm.reg]
  exact union_any a a' n c n' c' l m w h h' (by have := hl.len; have := hm.len; have := h.len; have := h'.len; omega)

theorem rdc_lit (w : World) (r : Rc) (ok : r.Ok) : RdC (w.alloc (.cells #[.int .i64 r.x, .int .i64 r.y, .int .i64 r.w, .int .i64 r.h] 36)) (some ⟨w.heap.size, 0, none⟩) 1 1 [r] := by
  refine ⟨rfl, Nat.le_refl _, by decide, (fun h => by cases h), fun _ => ⟨w.heap.size, 0, rfl, by simp, fun j x hx => ?_⟩, fun x hx => ?_⟩
  · cases j with
    | zero =>
      simp only [List.getElem?_cons_zero, Option.some.injEq] at hx
      subst hx
      have := bx_new w r
      obtain ⟨h0, h1, h2, h3⟩ := this.all
      exact ⟨by simp, h0, h1, h2, h3⟩
    | succ j => simp at hx
  · simp only [List.mem_singleton] at hx
    rw [hx]
    exact ok

end Go.Proofs.Ytlkodgmnhphfcaa
