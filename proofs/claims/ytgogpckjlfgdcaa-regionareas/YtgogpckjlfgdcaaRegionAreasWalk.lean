/- RegionAreas: for every two lists of rectangles the call returns true; nothing that was there has turned. -/
import Derived.Test.YtgogpckjlfgdcaaRgfH
namespace Go.Proofs.Ytgogpckjlfgdcaa.regionAreas
open Go Go.RowKit

theorem eq1 {A B : List Rc} (a : Reg A) (b : Reg B) : mk or (mk sub A B) (mk and A B) = A := by
  have h1 := (mk_all (f := sub) rfl a.ck b.ck).1
  have h2 := (mk_all (f := and) rfl a.ck b.ck).1
  refine reg_eq (mk_all (f := or) rfl h1.ck h2.ck).1 a fun x y => ?_
  rw [mkp rfl h1 h2, mkp rfl a b, mkp rfl a b]
  cases pt A x y <;> cases pt B x y <;> rfl
theorem eq2 {A B : List Rc} (a : Reg A) (b : Reg B) : mk or (mk sub (mk or A B) B) B = mk or A B := by
  have h1 := (mk_all (f := or) rfl a.ck b.ck).1
  have h2 := (mk_all (f := sub) rfl h1.ck b.ck).1
  refine reg_eq (mk_all (f := or) rfl h2.ck b.ck).1 h1 fun x y => ?_
  rw [mkp rfl h2 b, mkp rfl h1 b, mkp rfl a b]
  cases pt A x y <;> cases pt B x y <;> rfl
theorem eq3 {A : List Rc} (a : Reg A) : mk sub A A = [] := by
  refine reg_eq (mk_all (f := sub) rfl a.ck a.ck).1 reg_nil fun x y => ?_
  rw [mkp rfl a a, pt_nil]
  cases pt A x y <;> rfl
theorem ar1 {A B : List Rc} (a : Reg A) (b : Reg B) : area (mk sub A B) + area (mk and A B) = area A := by
  have := area_two (mk_all (f := sub) rfl a.ck b.ck).1 (mk_all (f := and) rfl a.ck b.ck).1 a reg_nil fun x y => by
    rw [mkp rfl a b, mkp rfl a b, pt_nil]
    cases pt A x y <;> cases pt B x y <;> rfl
  rw [this, area_nil, Int.add_zero]
theorem ar2 {A B : List Rc} (a : Reg A) (b : Reg B) : area (mk or A B) + area (mk and A B) = area A + area B :=
  area_two (mk_all (f := or) rfl a.ck b.ck).1 (mk_all (f := and) rfl a.ck b.ck).1 a b fun x y => by
    rw [mkp rfl a b, mkp rfl a b]
    cases pt A x y <;> cases pt B x y <;> rfl
theorem small {p : Nat} {A : List Rc} (a : Gd p A) (hp : p * p ≤ 784) : 0 ≤ area A ∧ area A ≤ 784 * 1125899906842624 := by
  have h1 := area_low a.reg.ck
  have h2 := a.len
  have h3 : (A.length : Int) * 1125899906842624 ≤ 784 * 1125899906842624 := Int.mul_le_mul_of_nonneg_right (by omega) (by decide)
  omega
theorem none_left {a : Option Addr} {n c p : Nat} {l : List Rc} {w : World} (h : RdC w a n c l) (hl : Gd p l) (hn : p * p + p * p ≤ 4096) : Calls Try.prog 19 #[.slice a n c, .slice a n c] w (Ret w []) := by
  have := subtract_reg h h hl hl hn
  rw [eq3 hl.reg] at this
  exact this

set_option maxRecDepth 100000 in
set_option maxHeartbeats 1000000 in
theorem walk (a0 : Option Addr) (n0 c0 : Nat) (l0 : List (List Int)) (a1 : Option Addr) (n1 c1 : Nat) (l1 : List (List Int)) (w : World) (r0 : RdN 4 w a0 n0 c0 l0) (r1 : RdN 4 w a1 n1 c1 l1) :
    Calls Try.prog 6 #[.slice a0 n0 c0, .slice a1 n1 c1] w fun e w' => e = .returned (.bool true) ∧ Below w.heap.size w w' := by
  have HP0 := hid (rdc_of_rdn r0)
  have HP1 := hid (rdc_of_rdn r1)
  have HBel := hid (Below.refl w.heap.size w)
  clear r0 r1
  go_enter Try.func6, Try.ntmps6
  go_wp2_with fail
  refine (made_reg HP0.out).mono ?_
  rintro e w1 ⟨A, KA, a1, c1, rfl, h1, hb1⟩
  replace HP0 := hid (HP0.out.on hb1)
  replace HP1 := hid (HP1.out.on hb1)
  replace HBel := hid (Below.on HBel.out hb1)
  have HA := hid h1
  clear h1 hb1
  replace KA := hid KA
  go_wp2_with fail
  refine (made_reg HP1.out).mono ?_
  rintro e w2 ⟨B, KB, a2, c2, rfl, h2, hb2⟩
  replace HP0 := hid (HP0.out.on hb2)
  replace HP1 := hid (HP1.out.on hb2)
  replace HA := hid (HA.out.on hb2)
  replace HBel := hid (Below.on HBel.out hb2)
  have HB := hid h2
  clear h2 hb2
  replace KB := hid KB
  clear HP0 HP1
  go_wp2_with fail
  refine (union_reg HA.out HB.out KA.out KB.out (by decide)).mono ?_
  rintro e w3 ⟨a3, c3, rfl, h3, hb3⟩
  replace HA := hid (HA.out.on hb3)
  replace HB := hid (HB.out.on hb3)
  replace HBel := hid (Below.on HBel.out hb3)
  have HU := hid h3
  clear h3 hb3
  go_wp2_with fail
  refine (subtract_reg HA.out HB.out KA.out KB.out (by decide)).mono ?_
  rintro e w4 ⟨a4, c4, rfl, h4, hb4⟩
  replace HA := hid (HA.out.on hb4)
  replace HB := hid (HB.out.on hb4)
  replace HU := hid (HU.out.on hb4)
  replace HBel := hid (Below.on HBel.out hb4)
  have HS := hid h4
  clear h4 hb4
  go_wp2_with fail
  refine (intersect_reg HA.out HB.out KA.out KB.out (by decide)).mono ?_
  rintro e w5 ⟨a5, c5, rfl, h5, hb5⟩
  replace HA := hid (HA.out.on hb5)
  replace HB := hid (HB.out.on hb5)
  replace HU := hid (HU.out.on hb5)
  replace HS := hid (HS.out.on hb5)
  replace HBel := hid (Below.on HBel.out hb5)
  have HC := hid h5
  clear h5 hb5
  have s1 := small KA.out (by decide)
  have s2 := small KB.out (by decide)
  have f1 : IntKind.i64.wrap (area (mk sub A B) + area (mk and A B)) = area A := by rw [ar1 KA.out.reg KB.out.reg, IntKind.wrap_i64]; omega
  have f2 : IntKind.i64.wrap (area (mk or A B) + area (mk and A B)) = area A + area B := by rw [ar2 KA.out.reg KB.out.reg, IntKind.wrap_i64]; omega
  have f3 : IntKind.i64.wrap (area A + area B) = area A + area B := by rw [IntKind.wrap_i64]; omega
  go_wp2_with fail
  refine (area_reg HS.out (gd_both (f := sub) KA.out KB.out rfl) (by decide)).mono ?_
  rintro e w6 ⟨rfl, hb6⟩
  replace HA := hid (HA.out.on hb6)
  replace HB := hid (HB.out.on hb6)
  replace HU := hid (HU.out.on hb6)
  replace HS := hid (HS.out.on hb6)
  replace HC := hid (HC.out.on hb6)
  replace HBel := hid (Below.on HBel.out hb6)
  clear hb6
  go_wp2_with fail
  refine (area_reg HC.out (gd_both (f := and) KA.out KB.out rfl) (by decide)).mono ?_
  rintro e w7 ⟨rfl, hb7⟩
  replace HA := hid (HA.out.on hb7)
  replace HB := hid (HB.out.on hb7)
  replace HU := hid (HU.out.on hb7)
  replace HS := hid (HS.out.on hb7)
  replace HC := hid (HC.out.on hb7)
  replace HBel := hid (Below.on HBel.out hb7)
  clear hb7
  go_wp2_with fail
  refine (area_reg HA.out KA.out (by decide)).mono ?_
  rintro e w8 ⟨rfl, hb8⟩
  replace HA := hid (HA.out.on hb8)
  replace HB := hid (HB.out.on hb8)
  replace HU := hid (HU.out.on hb8)
  replace HS := hid (HS.out.on hb8)
  replace HC := hid (HC.out.on hb8)
  replace HBel := hid (Below.on HBel.out hb8)
  clear hb8
  go_wp2_with fail
  refine (area_reg HU.out (gd_both (f := or) KA.out KB.out rfl) (by decide)).mono ?_
  rintro e w9 ⟨rfl, hb9⟩
  replace HA := hid (HA.out.on hb9)
  replace HB := hid (HB.out.on hb9)
  replace HU := hid (HU.out.on hb9)
  replace HS := hid (HS.out.on hb9)
  replace HC := hid (HC.out.on hb9)
  replace HBel := hid (Below.on HBel.out hb9)
  clear hb9
  go_wp2_with fail
  refine (area_reg HC.out (gd_both (f := and) KA.out KB.out rfl) (by decide)).mono ?_
  rintro e w10 ⟨rfl, hb10⟩
  replace HA := hid (HA.out.on hb10)
  replace HB := hid (HB.out.on hb10)
  replace HU := hid (HU.out.on hb10)
  replace HS := hid (HS.out.on hb10)
  replace HC := hid (HC.out.on hb10)
  replace HBel := hid (Below.on HBel.out hb10)
  clear hb10
  go_wp2_with fail
  refine (area_reg HA.out KA.out (by decide)).mono ?_
  rintro e w11 ⟨rfl, hb11⟩
  replace HA := hid (HA.out.on hb11)
  replace HB := hid (HB.out.on hb11)
  replace HU := hid (HU.out.on hb11)
  replace HS := hid (HS.out.on hb11)
  replace HC := hid (HC.out.on hb11)
  replace HBel := hid (Below.on HBel.out hb11)
  clear hb11
  go_wp2_with fail
  refine (area_reg HB.out KB.out (by decide)).mono ?_
  rintro e w12 ⟨rfl, hb12⟩
  replace HA := hid (HA.out.on hb12)
  replace HB := hid (HB.out.on hb12)
  replace HU := hid (HU.out.on hb12)
  replace HS := hid (HS.out.on hb12)
  replace HC := hid (HC.out.on hb12)
  replace HBel := hid (Below.on HBel.out hb12)
  clear hb12
  go_wp2_with fail
  refine (union_reg HS.out HC.out (gd_both (f := sub) KA.out KB.out rfl) (gd_both (f := and) KA.out KB.out rfl) (by decide)).mono ?_
  rintro e w13 ⟨a13, c13, rfl, h13, hb13⟩
  replace HA := hid (HA.out.on hb13)
  replace HB := hid (HB.out.on hb13)
  replace HU := hid (HU.out.on hb13)
  replace HS := hid (HS.out.on hb13)
  replace HC := hid (HC.out.on hb13)
  replace HBel := hid (Below.on HBel.out hb13)
  have HD := hid h13
  clear h13 hb13
  clear f1 f2 f3 s1 s2
  go_wp2_with fail
  refine (same_reg HD.out HA.out (eq1 KA.out.reg KB.out.reg)).mono ?_
  rintro e w14 ⟨rfl, hb14⟩
  replace HA := hid (HA.out.on hb14)
  replace HB := hid (HB.out.on hb14)
  replace HU := hid (HU.out.on hb14)
  replace HS := hid (HS.out.on hb14)
  replace HC := hid (HC.out.on hb14)
  replace HD := hid (HD.out.on hb14)
  replace HBel := hid (Below.on HBel.out hb14)
  clear hb14
  clear HD HS HC
  go_wp2_with fail
  refine (subtract_reg HU.out HB.out (gd_both (f := or) KA.out KB.out rfl) KB.out (by decide)).mono ?_
  rintro e w15 ⟨a15, c15, rfl, h15, hb15⟩
  replace HA := hid (HA.out.on hb15)
  replace HB := hid (HB.out.on hb15)
  replace HU := hid (HU.out.on hb15)
  replace HBel := hid (Below.on HBel.out hb15)
  have HE := hid h15
  clear h15 hb15
  go_wp2_with fail
  refine (union_reg HE.out HB.out (gd_both (f := sub) (gd_both (f := or) KA.out KB.out rfl) KB.out rfl) KB.out (by decide)).mono ?_
  rintro e w16 ⟨a16, c16, rfl, h16, hb16⟩
  replace HA := hid (HA.out.on hb16)
  replace HB := hid (HB.out.on hb16)
  replace HU := hid (HU.out.on hb16)
  replace HE := hid (HE.out.on hb16)
  replace HBel := hid (Below.on HBel.out hb16)
  have HF := hid h16
  clear h16 hb16
  go_wp2_with fail
  refine (same_reg HF.out HU.out (eq2 KA.out.reg KB.out.reg)).mono ?_
  rintro e w17 ⟨rfl, hb17⟩
  replace HA := hid (HA.out.on hb17)
  replace HB := hid (HB.out.on hb17)
  replace HU := hid (HU.out.on hb17)
  replace HE := hid (HE.out.on hb17)
  replace HF := hid (HF.out.on hb17)
  replace HBel := hid (Below.on HBel.out hb17)
  clear hb17
  clear HE HF HU
  go_wp2_with fail
  refine (none_left HA.out KA.out (by decide)).mono ?_
  rintro e w18 ⟨a18, c18, rfl, h18, hb18⟩
  replace HA := hid (HA.out.on hb18)
  replace HB := hid (HB.out.on hb18)
  replace HBel := hid (Below.on HBel.out hb18)
  have HZ := hid h18
  clear h18 hb18
  go_wp2_with fail
  refine (awake_any _).mono ?_
  rintro e w19 ⟨rfl, hb19⟩
  replace HA := hid (HA.out.on hb19)
  replace HB := hid (HB.out.on hb19)
  replace HZ := hid (HZ.out.on hb19)
  replace HBel := hid (Below.on HBel.out hb19)
  clear hb19
  go_wp2
  go_ret
  exact ⟨rfl, HBel.out⟩
end Go.Proofs.Ytgogpckjlfgdcaa.regionAreas
