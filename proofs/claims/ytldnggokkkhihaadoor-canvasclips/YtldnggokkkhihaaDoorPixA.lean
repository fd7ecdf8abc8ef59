/- Colours as numbers: their parts, joined, a share, one over the other (no program). -/
import Derived.WalkKit
import Derived.Laws.BitsLemmas
namespace Go.Proofs.YtldnggokkkhihaaDoor
open Go Go.RowKit

/-- What a part may be, the nearest. -/
def ct (n : Int) : Int := min (max n 0) 255
/-- Eight bits of a colour, 0 the lowest. -/
def pt0 (u : Int) : Int := u % 256
def pt1 (u : Int) : Int := u / 256 % 256
def pt2 (u : Int) : Int := u / 65536 % 256
def pt3 (u : Int) : Int := u / 16777216 % 256
/-- The colour of parts. -/
def jn (a r g b : Int) : Int := ((ct a * 256 + ct r) * 256 + ct g) * 256 + ct b
/-- A share of a part. -/
def scl (x y : Int) : Int := (ct x * ct y + 127) / 255
/-- A colour over another one. -/
def ovr (u o : Int) : Int := jn (pt3 o + scl (pt3 u) (255 - pt3 o)) (pt2 o + scl (pt2 u) (255 - pt3 o)) (pt1 o + scl (pt1 u) (255 - pt3 o)) (pt0 o + scl (pt0 u) (255 - pt3 o))
/-- The colour of a number of a format. -/
def lod (u f : Int) : Int := if f = 0 then u else if f = 1 then jn 255 (pt2 u) (pt1 u) (pt0 u) else 0
/-- A colour. -/
def Col (u : Int) : Prop := 0 ≤ u ∧ u < 4294967296

theorem ct_bd (n : Int) : 0 ≤ ct n ∧ ct n ≤ 255 := by unfold ct; omega
theorem ct_id {n : Int} (h : 0 ≤ n ∧ n ≤ 255) : ct n = n := by unfold ct; omega
theorem pt0_bd (u : Int) : 0 ≤ pt0 u ∧ pt0 u ≤ 255 := by unfold pt0; omega
theorem pt1_bd (u : Int) : 0 ≤ pt1 u ∧ pt1 u ≤ 255 := by unfold pt1; omega
theorem pt2_bd (u : Int) : 0 ≤ pt2 u ∧ pt2 u ≤ 255 := by unfold pt2; omega
theorem pt3_bd (u : Int) : 0 ≤ pt3 u ∧ pt3 u ≤ 255 := by unfold pt3; omega
theorem jn_bd (a r g b : Int) : Col (jn a r g b) := by
  have := ct_bd a; have := ct_bd r; have := ct_bd g; have := ct_bd b
  unfold Col jn; omega
theorem prod_bd {x y : Int} (hx : 0 ≤ x ∧ x ≤ 255) (hy : 0 ≤ y ∧ y ≤ 255) : 0 ≤ x * y ∧ x * y ≤ 65025 := by
  refine ⟨Int.mul_nonneg hx.1 hy.1, ?_⟩
  have := Int.mul_le_mul hx.2 hy.2 hy.1 (by omega : (0 : Int) ≤ 255)
  omega
theorem scl_bd (x y : Int) : 0 ≤ scl x y ∧ scl x y ≤ 255 := by
  have := prod_bd (ct_bd x) (ct_bd y)
  unfold scl; omega
theorem ovr_bd (u o : Int) : Col (ovr u o) := jn_bd _ _ _ _

/-- The parts of what is joined. -/
theorem pt3_jn (a r g b : Int) : pt3 (jn a r g b) = ct a := by
  have := ct_bd a; have := ct_bd r; have := ct_bd g; have := ct_bd b
  unfold pt3 jn; omega
theorem pt2_jn (a r g b : Int) : pt2 (jn a r g b) = ct r := by
  have := ct_bd a; have := ct_bd r; have := ct_bd g; have := ct_bd b
  unfold pt2 jn; omega
theorem pt1_jn (a r g b : Int) : pt1 (jn a r g b) = ct g := by
  have := ct_bd a; have := ct_bd r; have := ct_bd g; have := ct_bd b
  unfold pt1 jn; omega
theorem pt0_jn (a r g b : Int) : pt0 (jn a r g b) = ct b := by
  have := ct_bd a; have := ct_bd r; have := ct_bd g; have := ct_bd b
  unfold pt0 jn; omega
theorem jn_ct (a r g b : Int) : jn (ct a) (ct r) (ct g) (ct b) = jn a r g b := by
  unfold jn; rw [ct_id (ct_bd a), ct_id (ct_bd r), ct_id (ct_bd g), ct_id (ct_bd b)]
/-- What is joined of a colour's parts is it. -/
theorem jn_pts {u : Int} (h : Col u) : jn (pt3 u) (pt2 u) (pt1 u) (pt0 u) = u := by
  unfold jn
  rw [ct_id (pt3_bd u), ct_id (pt2_bd u), ct_id (pt1_bd u), ct_id (pt0_bd u)]
  unfold pt3 pt2 pt1 pt0
  obtain ⟨h1, h2⟩ := h
  omega

theorem scl_full (x : Int) : scl x 255 = ct x := by
  have := ct_bd x
  unfold scl; rw [ct_id (n := 255) (by omega)]; omega
theorem scl_none (x : Int) : scl x 0 = 0 := by
  unfold scl; rw [ct_id (n := 0) (by omega)]; omega
theorem scl_zero (y : Int) : scl 0 y = 0 := by
  unfold scl; rw [ct_id (n := 0) (by omega)]; omega
theorem scl_swap (x y : Int) : scl x y = scl y x := by unfold scl; rw [Int.mul_comm]
theorem ct_mono {x y : Int} (h : x ≤ y) : ct x ≤ ct y := by unfold ct; omega
theorem scl_mono {x y z : Int} (h : y ≤ z) : scl x y ≤ scl x z := by
  have := Int.mul_le_mul_of_nonneg_left (ct_mono h) (ct_bd x).1
  unfold scl; omega
theorem scl_monoL {x y z : Int} (h : x ≤ y) : scl x z ≤ scl y z := by rw [scl_swap x, scl_swap y]; exact scl_mono h
theorem scl_near {x y : Int} (hx : 0 ≤ x ∧ x ≤ 255) (hy : 0 ≤ y ∧ y ≤ 255) : -127 ≤ 255 * scl x y - x * y ∧ 255 * scl x y - x * y ≤ 127 := by
  have := prod_bd hx hy
  unfold scl; rw [ct_id hx, ct_id hy]; omega

/-- What has a 255 is what is seen. -/
theorem ovr_full {u o : Int} (ho : Col o) (h : pt3 o = 255) : ovr u o = o := by
  unfold ovr
  rw [h, show (255 : Int) - 255 = 0 from rfl, scl_none, scl_none, scl_none, scl_none, ← h, Int.add_zero, Int.add_zero, Int.add_zero, Int.add_zero]
  exact jn_pts ho
theorem ovr_none {u : Int} (hu : Col u) : ovr u 0 = u := by
  unfold ovr
  have e3 : pt3 0 = 0 := by decide
  have e2 : pt2 0 = 0 := by decide
  have e1 : pt1 0 = 0 := by decide
  have e0 : pt0 0 = 0 := by decide
  rw [e3, e2, e1, e0, show (255 : Int) - 0 = 255 from rfl, scl_full, scl_full, scl_full, scl_full, Int.zero_add, Int.zero_add, Int.zero_add, Int.zero_add, jn_ct]
  exact jn_pts hu
theorem ovr_zero {o : Int} (ho : Col o) : ovr 0 o = o := by
  unfold ovr
  have e3 : pt3 0 = 0 := by decide
  have e2 : pt2 0 = 0 := by decide
  have e1 : pt1 0 = 0 := by decide
  have e0 : pt0 0 = 0 := by decide
  rw [e3, e2, e1, e0, scl_zero, Int.add_zero, Int.add_zero, Int.add_zero, Int.add_zero]
  exact jn_pts ho
theorem ovr_opaque {u o : Int} (h : pt3 u = 255) : pt3 (ovr u o) = 255 := by
  unfold ovr
  have := pt3_bd o
  rw [pt3_jn, h, scl_swap, scl_full, ct_id (n := 255 - pt3 o) (by omega)]
  unfold ct; omega
theorem ovr_ex : ovr 4278190335 2155872256 = 4286578815 := by decide
theorem jn_ex : jn 1 2 3 4 = 16909060 := by decide

/-- A colour with a 255. -/
def ful (u : Int) : Int := u % 16777216 + 4278190080
theorem ful_col (u : Int) : Col (ful u) := by unfold Col ful; omega
theorem ful_pt (u : Int) : pt3 (ful u) = 255 := by unfold pt3 ful; omega
theorem ful_jn (u : Int) : jn 255 (pt2 u) (pt1 u) (pt0 u) = ful u := by
  unfold jn
  rw [ct_id (n := 255) (by omega), ct_id (pt2_bd u), ct_id (pt1_bd u), ct_id (pt0_bd u)]
  unfold pt2 pt1 pt0 ful; omega
theorem wraps_u32 (n : Int) (h₀ : 0 ≤ n) (h₁ : n < 2 ^ 32) : IntKind.u32.wrap n = n := by rw [IntKind.wrap_u32]; omega
theorem or8 {x y : Int} (hx : 0 ≤ x ∧ x < 16777216) (hy : 0 ≤ y ∧ y ≤ 255) : bits .or .u32 (x * 256) y = x * 256 + y :=
  bits_join .u32 32 (by decide) wraps_u32 8 (x * 256) y (by omega) (by omega) (by omega) hy.1 (by omega) (by omega)
theorem orj {x y : Int} (hx : 0 ≤ x ∧ x < 16777216) (hy : 0 ≤ y ∧ y ≤ 255) : bits .or .u32 (x * 256 % 4294967296) y = x * 256 + y := by
  rw [show x * 256 % 4294967296 = x * 256 from by omega]
  exact or8 hx hy
theorem or0 {y : Int} (hy : 0 ≤ y ∧ y ≤ 255) : bits .or .u32 0 y = y := by
  have := or8 (x := 0) (by omega) hy
  rw [Int.zero_mul, Int.zero_add] at this
  exact this
theorem or_ful {u : Int} (h : Col u) : bits .or .u32 u 4278190080 = ful u := by
  obtain ⟨h0, h1⟩ := h
  obtain ⟨n, rfl⟩ := Int.eq_ofNat_of_zero_le h0
  have hn : n < 2 ^ 32 := by omega
  have e := (bits_nat .u32 32 (by decide) wraps_u32 n 4278190080 hn (by decide)).2
  have e2 : ((4278190080 : Nat) : Int) = 4278190080 := rfl
  rw [e2] at e
  rw [e]
  have e3 : n ||| 4278190080 = n % 16777216 + 4278190080 := by
    have q : (4278190080 : Nat) = 2 ^ 24 * 255 := by decide
    have q2 : n % 2 ^ 24 < 2 ^ 24 := Nat.mod_lt _ (by decide)
    have q1 := Nat.two_pow_add_eq_or_of_lt q2 255
    have q3 : n ||| 2 ^ 24 * 255 = 2 ^ 24 * 255 ||| n % 2 ^ 24 := by
      apply Nat.eq_of_testBit_eq
      intro i
      rw [Nat.testBit_or, Nat.testBit_or, Nat.testBit_mod_two_pow, Nat.testBit_two_pow_mul]
      by_cases hi : i < 24
      · have : ¬ 24 ≤ i := by omega
        simp [hi, this]
      · have h2 : 24 ≤ i := by omega
        by_cases hj : i < 32
        · have : Nat.testBit 255 (i - 24) = true := by
            have : i - 24 = 0 ∨ i - 24 = 1 ∨ i - 24 = 2 ∨ i - 24 = 3 ∨ i - 24 = 4 ∨ i - 24 = 5 ∨ i - 24 = 6 ∨ i - 24 = 7 := by omega
            rcases this with e | e | e | e | e | e | e | e <;> rw [e] <;> decide
          simp [h2, this]
        · have : n.testBit i = false := Nat.testBit_lt_two_pow (Nat.lt_of_lt_of_le hn (Nat.pow_le_pow_right (by decide) (by omega)))
          simp [hi, this]
    rw [q, q3, ← q1]
    omega
  rw [e3]
  unfold ful
  omega
end Go.Proofs.YtldnggokkkhihaaDoor
