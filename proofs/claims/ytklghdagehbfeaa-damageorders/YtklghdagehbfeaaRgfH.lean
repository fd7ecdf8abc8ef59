/- Regions within a grid: what comes of two; the contracts at regions. -/
import Derived.Test.YtklghdagehbfeaaRgfG
namespace Go.Proofs.Ytklghdagehbfeaa
open Go Go.RowKit

/-- A region whose edges are among p across and p down. -/
structure Gd (p : Nat) (l : List Rc) : Prop where
  reg : Reg l
  grid : ∃ X Y, Grid X Y l ∧ X.length ≤ p ∧ Y.length ≤ p
theorem Gd.len {p : Nat} {l : List Rc} (h : Gd p l) : l.length ≤ p * p := by
  obtain ⟨X, Y, g, hx, hy⟩ := h.grid
  exact Nat.le_trans (grid_len h.reg.bands g) (Nat.mul_le_mul hx hy)
theorem gd_both {p q : Nat} {f : Bool → Bool → Bool} {a b : List Rc} (ha : Gd p a) (hb : Gd q b) (hf : f false false = false) : Gd (p + q) (mk f a b) := by
  obtain ⟨X, Y, g, hx, hy⟩ := ha.grid
  obtain ⟨X', Y', g', hx', hy'⟩ := hb.grid
  refine ⟨(mk_all hf ha.reg.ck hb.reg.ck).1, X ++ X', Y ++ Y', grid_mk hf ha.reg.ck hb.reg.ck (g.mono (fun x h => by simp [h]) (fun x h => by simp [h])) (g'.mono (fun x h => by simp [h]) (fun x h => by simp [h])), by rw [List.length_append]; omega, by rw [List.length_append]; omega⟩
theorem md_gd (g : Nat → Rc) {i : Nat} (hi : i ≤ 7) : Gd 14 (md g i) := by
  obtain ⟨X, Y, h, hx, hy, _, _⟩ := md_grid g i
  exact ⟨md_reg g i, X, Y, h, by omega, by omega⟩
theorem mkp {f : Bool → Bool → Bool} (hf : f false false = false) {a b : List Rc} (ha : Reg a) (hb : Reg b) (x y : Int) : pt (mk f a b) x y = f (pt a x y) (pt b x y) := (mk_all hf ha.ck hb.ck).2.1 x y

theorem union_reg {a a' : Option Addr} {n c n' c' p q : Nat} {l m : List Rc} {w : World} (h : RdC w a n c l) (h' : RdC w a' n' c' m) (hl : Gd p l) (hm : Gd q m) (hn : p * p + q * q ≤ 4096) : Calls Try.prog 36 #[.slice a n c, .slice a' n' c'] w (Ret w (mk or l m)) := by
  rw [← unn_reg hl.reg hm.reg]
  exact union_any a a' n c n' c' l m w h h' (by have := hl.len; have := hm.len; have := h.len; have := h'.len; omega)
theorem intersect_reg {a a' : Option Addr} {n c n' c' p q : Nat} {l m : List Rc} {w : World} (h : RdC w a n c l) (h' : RdC w a' n' c' m) (hl : Gd p l) (hm : Gd q m) (hn : p * p + q * q ≤ 4096) : Calls Try.prog 24 #[.slice a n c, .slice a' n' c'] w (Ret w (mk and l m)) := by
  rw [← unn_reg hl.reg hm.reg]
  exact intersect_any a a' n c n' c' l m w h h' (by have := hl.len; have := hm.len; have := h.len; have := h'.len; omega)
theorem check_reg {a : Option Addr} {n c : Nat} {l : List Rc} {w : World} (h : RdC w a n c l) (hl : Reg l) : Calls Try.prog 38 #[.slice a n c] w fun e w' => e = .returned (.bool true) ∧ Below w.heap.size w w' := by
  have := regcheck_any a n c l w h
  rw [rgn_iff.2 hl] at this
  exact this
theorem same_reg {a a' : Option Addr} {n c n' c' : Nat} {l m : List Rc} {w : World} (h : RdC w a n c l) (h' : RdC w a' n' c' m) (he : l = m) : Calls Try.prog 9 #[.slice a n c, .slice a' n' c'] w fun e w' => e = .returned (.bool true) ∧ Below w.heap.size w w' := by
  have := samerects_any a a' n c n' c' l m w h h'
  rw [he, eqr_same] at this
  refine this.mono ?_
  rintro e w' ⟨rfl, q, rfl⟩
  exact ⟨rfl, below_drewN (Below.refl _ _) q⟩

/-- How many points, by points. -/
theorem area_two {a b c d : List Rc} (ha : Reg a) (hb : Reg b) (hc : Reg c) (hd : Reg d) (h : ∀ x y, one (pt a x y) + one (pt b x y) = one (pt c x y) + one (pt d x y)) : area a + area b = area c + area d := by
  rw [area_cnt rfl ha.bands, area_cnt rfl hb.bands, area_cnt rfl hc.bands, area_cnt rfl hd.bands]
  exact cnt_two h
theorem area_nil : area [] = 0 := rfl
end Go.Proofs.Ytklghdagehbfeaa
