/- Regions within a grid: what comes of two; the contracts at regions. -/
import Derived.Test.YtlkodgmnhphfcaaRgfG
import Derived.Test.YtlkodgmnhphfcaaRgnV
namespace Go.Proofs.Ytlkodgmnhphfcaa
open Go Go.RowKit

theorem md_gd (g : Nat → Rc) {i : Nat} (hi : i ≤ 7) : Gd 14 (md g i) := by
  obtain ⟨X, Y, h, hx, hy, _, _⟩ := md_grid g i
  exact ⟨md_reg g i, X, Y, h, by omega, by omega⟩

theorem check_reg {a : Option Addr} {n c : Nat} {l : List Rc} {w : World} (h : RdC w a n c l) (hl : Reg l) : Calls Try.prog 55 #[.slice a n c] w fun e w' => e = .returned (.bool true) ∧ Below w.heap.size w w' := by
  have := regcheck_any a n c l w h
  rw [rgn_iff.2 hl] at this
  exact this
theorem same_reg {a a' : Option Addr} {n c n' c' : Nat} {l m : List Rc} {w : World} (h : RdC w a n c l) (h' : RdC w a' n' c' m) (he : l = m) : Calls Try.prog 8 #[.slice a n c, .slice a' n' c'] w fun e w' => e = .returned (.bool true) ∧ Below w.heap.size w w' := by
  have := samerects_any a a' n c n' c' l m w h h'
  rw [he, eqr_same] at this
  refine this.mono ?_
  rintro e w' ⟨rfl, q, rfl⟩
  exact ⟨rfl, below_drewN (Below.refl _ _) q⟩

/-- How many points, by points. -/
theorem area_two {a b c d : List Rc} (ha : Reg a) (hb : Reg b) (hc : Reg c) (hd : Reg d) (h : ∀ x y, one (pt a x y) + one (pt b x y) = one (pt c x y) + one (pt d x y)) : area a + area b = area c + area d := by
  rw [area_cnt rfl ha.bands, area_cnt rfl hb.bands, area_cnt rfl hc.bands, area_cnt rfl hd.bands]
  exact cnt_two h
theorem area_nil : area [] = 0 := rfl
end Go.Proofs.Ytlkodgmnhphfcaa
