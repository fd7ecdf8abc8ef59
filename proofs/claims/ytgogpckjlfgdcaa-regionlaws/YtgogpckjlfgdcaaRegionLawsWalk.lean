/- RegionLaws: for every three lists of rectangles the call returns true; nothing that was there has turned. -/
import Derived.Test.YtgogpckjlfgdcaaRgfH
namespace Go.Proofs.Ytgogpckjlfgdcaa.regionLaws
open Go Go.RowKit

theorem eq1 {A B C : List Rc} (a : Reg A) (b : Reg B) (c : Reg C) : mk or (mk or A B) C = mk or A (mk or C B) := by
  have h1 := (mk_all (f := or) rfl a.ck b.ck).1
  have h2 := (mk_all (f := or) rfl c.ck b.ck).1
  refine reg_eq (mk_all (f := or) rfl h1.ck c.ck).1 (mk_all (f := or) rfl a.ck h2.ck).1 fun x y => ?_
  rw [mkp rfl h1 c, mkp rfl a b, mkp rfl a h2, mkp rfl c b]
  cases pt A x y <;> cases pt B x y <;> cases pt C x y <;> rfl
theorem eq2 {A B C : List Rc} (a : Reg A) (b : Reg B) (c : Reg C) : mk and A (mk or B C) = mk or (mk and A B) (mk and C A) := by
  have h1 := (mk_all (f := or) rfl b.ck c.ck).1
  have h2 := (mk_all (f := and) rfl a.ck b.ck).1
  have h3 := (mk_all (f := and) rfl c.ck a.ck).1
  refine reg_eq (mk_all (f := and) rfl a.ck h1.ck).1 (mk_all (f := or) rfl h2.ck h3.ck).1 fun x y => ?_
  rw [mkp rfl a h1, mkp rfl b c, mkp rfl h2 h3, mkp rfl a b, mkp rfl c a]
  cases pt A x y <;> cases pt B x y <;> cases pt C x y <;> rfl
theorem eq3 {A B C : List Rc} (a : Reg A) (b : Reg B) (c : Reg C) : mk sub (mk sub A B) C = mk sub A (mk or B C) := by
  have h1 := (mk_all (f := or) rfl b.ck c.ck).1
  have h2 := (mk_all (f := sub) rfl a.ck b.ck).1
  refine reg_eq (mk_all (f := sub) rfl h2.ck c.ck).1 (mk_all (f := sub) rfl a.ck h1.ck).1 fun x y => ?_
  rw [mkp rfl h2 c, mkp rfl a b, mkp rfl a h1, mkp rfl b c]
  cases pt A x y <;> cases pt B x y <;> cases pt C x y <;> rfl
theorem eq4 {A : List Rc} (a : Reg A) : mk or A A = A := by
  refine reg_eq (mk_all (f := or) rfl a.ck a.ck).1 a fun x y => ?_
  rw [mkp rfl a a, Bool.or_self]
theorem eq5 {A : List Rc} (a : Reg A) : mk and A A = A := by
  refine reg_eq (mk_all (f := and) rfl a.ck a.ck).1 a fun x y => ?_
  rw [mkp rfl a a, Bool.and_self]

set_option maxRecDepth 100000 in
set_option maxHeartbeats 1000000 in
theorem walk (a0 : Option Addr) (n0 c0 : Nat) (l0 : List (List Int)) (a1 : Option Addr) (n1 c1 : Nat) (l1 : List (List Int)) (a2 : Option Addr) (n2 c2 : Nat) (l2 : List (List Int)) (w : World) (r0 : RdN 4 w a0 n0 c0 l0) (r1 : RdN 4 w a1 n1 c1 l1) (r2 : RdN 4 w a2 n2 c2 l2) :
    Calls Try.prog 7 #[.slice a0 n0 c0, .slice a1 n1 c1, .slice a2 n2 c2] w fun e w' => e = .returned (.bool true) ∧ Below w.heap.size w w' := by
  have HP0 := hid (rdc_of_rdn r0)
  have HP1 := hid (rdc_of_rdn r1)
  have HP2 := hid (rdc_of_rdn r2)
  have HBel := hid (Below.refl w.heap.size w)
  clear r0 r1 r2
  go_enter Try.func7, Try.ntmps7
  go_wp2_with fail
  refine (made_reg HP0.out).mono ?_
  rintro e w1 ⟨A, KA, a1, c1, rfl, h1, hb1⟩
  replace HP0 := hid (HP0.out.on hb1)
  replace HP1 := hid (HP1.out.on hb1)
  replace HP2 := hid (HP2.out.on hb1)
  replace HBel := hid (Below.on HBel.out hb1)
  have HA := hid h1
  clear h1 hb1
  replace KA := hid KA
  go_wp2_with fail
  refine (made_reg HP1.out).mono ?_
  rintro e w2 ⟨B, KB, a2, c2, rfl, h2, hb2⟩
  replace HP0 := hid (HP0.out.on hb2)
  replace HP1 := hid (HP1.out.on hb2)
  replace HP2 := hid (HP2.out.on hb2)
  replace HA := hid (HA.out.on hb2)
  replace HBel := hid (Below.on HBel.out hb2)
  have HB := hid h2
  clear h2 hb2
  replace KB := hid KB
  go_wp2_with fail
  refine (made_reg HP2.out).mono ?_
  rintro e w3 ⟨C, KC, a3, c3, rfl, h3, hb3⟩
  replace HP0 := hid (HP0.out.on hb3)
  replace HP1 := hid (HP1.out.on hb3)
  replace HP2 := hid (HP2.out.on hb3)
  replace HA := hid (HA.out.on hb3)
  replace HB := hid (HB.out.on hb3)
  replace HBel := hid (Below.on HBel.out hb3)
  have HC := hid h3
  clear h3 hb3
  replace KC := hid KC
  clear HP0 HP1 HP2
  go_wp2_with fail
  refine (union_reg HA.out HB.out KA.out KB.out (by decide)).mono ?_
  rintro e w4 ⟨a4, c4, rfl, h4, hb4⟩
  replace HA := hid (HA.out.on hb4)
  replace HB := hid (HB.out.on hb4)
  replace HC := hid (HC.out.on hb4)
  replace HBel := hid (Below.on HBel.out hb4)
  have HD := hid h4
  clear h4 hb4
  go_wp2_with fail
  refine (union_reg HD.out HC.out (gd_both (f := or) KA.out KB.out rfl) KC.out (by decide)).mono ?_
  rintro e w5 ⟨a5, c5, rfl, h5, hb5⟩
  replace HA := hid (HA.out.on hb5)
  replace HB := hid (HB.out.on hb5)
  replace HC := hid (HC.out.on hb5)
  replace HD := hid (HD.out.on hb5)
  replace HBel := hid (Below.on HBel.out hb5)
  have HX := hid h5
  clear h5 hb5
  clear HD
  go_wp2_with fail
  refine (union_reg HC.out HB.out KC.out KB.out (by decide)).mono ?_
  rintro e w6 ⟨a6, c6, rfl, h6, hb6⟩
  replace HA := hid (HA.out.on hb6)
  replace HB := hid (HB.out.on hb6)
  replace HC := hid (HC.out.on hb6)
  replace HX := hid (HX.out.on hb6)
  replace HBel := hid (Below.on HBel.out hb6)
  have HD1 := hid h6
  clear h6 hb6
  go_wp2_with fail
  refine (union_reg HA.out HD1.out KA.out (gd_both (f := or) KC.out KB.out rfl) (by decide)).mono ?_
  rintro e w7 ⟨a7, c7, rfl, h7, hb7⟩
  replace HA := hid (HA.out.on hb7)
  replace HB := hid (HB.out.on hb7)
  replace HC := hid (HC.out.on hb7)
  replace HX := hid (HX.out.on hb7)
  replace HD1 := hid (HD1.out.on hb7)
  replace HBel := hid (Below.on HBel.out hb7)
  have HY := hid h7
  clear h7 hb7
  clear HD1
  go_wp2_with fail
  refine (union_reg HB.out HC.out KB.out KC.out (by decide)).mono ?_
  rintro e w8 ⟨a8, c8, rfl, h8, hb8⟩
  replace HA := hid (HA.out.on hb8)
  replace HB := hid (HB.out.on hb8)
  replace HC := hid (HC.out.on hb8)
  replace HX := hid (HX.out.on hb8)
  replace HY := hid (HY.out.on hb8)
  replace HBel := hid (Below.on HBel.out hb8)
  have HD2 := hid h8
  clear h8 hb8
  go_wp2_with fail
  refine (intersect_reg HA.out HD2.out KA.out (gd_both (f := or) KB.out KC.out rfl) (by decide)).mono ?_
  rintro e w9 ⟨a9, c9, rfl, h9, hb9⟩
  replace HA := hid (HA.out.on hb9)
  replace HB := hid (HB.out.on hb9)
  replace HC := hid (HC.out.on hb9)
  replace HX := hid (HX.out.on hb9)
  replace HY := hid (HY.out.on hb9)
  replace HD2 := hid (HD2.out.on hb9)
  replace HBel := hid (Below.on HBel.out hb9)
  have HZ := hid h9
  clear h9 hb9
  clear HD2
  go_wp2_with fail
  refine (intersect_reg HA.out HB.out KA.out KB.out (by decide)).mono ?_
  rintro e w10 ⟨a10, c10, rfl, h10, hb10⟩
  replace HA := hid (HA.out.on hb10)
  replace HB := hid (HB.out.on hb10)
  replace HC := hid (HC.out.on hb10)
  replace HX := hid (HX.out.on hb10)
  replace HY := hid (HY.out.on hb10)
  replace HZ := hid (HZ.out.on hb10)
  replace HBel := hid (Below.on HBel.out hb10)
  have HD3 := hid h10
  clear h10 hb10
  go_wp2_with fail
  refine (intersect_reg HC.out HA.out KC.out KA.out (by decide)).mono ?_
  rintro e w11 ⟨a11, c11, rfl, h11, hb11⟩
  replace HA := hid (HA.out.on hb11)
  replace HB := hid (HB.out.on hb11)
  replace HC := hid (HC.out.on hb11)
  replace HX := hid (HX.out.on hb11)
  replace HY := hid (HY.out.on hb11)
  replace HZ := hid (HZ.out.on hb11)
  replace HD3 := hid (HD3.out.on hb11)
  replace HBel := hid (Below.on HBel.out hb11)
  have HD4 := hid h11
  clear h11 hb11
  go_wp2_with fail
  refine (union_reg HD3.out HD4.out (gd_both (f := and) KA.out KB.out rfl) (gd_both (f := and) KC.out KA.out rfl) (by decide)).mono ?_
  rintro e w12 ⟨a12, c12, rfl, h12, hb12⟩
  replace HA := hid (HA.out.on hb12)
  replace HB := hid (HB.out.on hb12)
  replace HC := hid (HC.out.on hb12)
  replace HX := hid (HX.out.on hb12)
  replace HY := hid (HY.out.on hb12)
  replace HZ := hid (HZ.out.on hb12)
  replace HD3 := hid (HD3.out.on hb12)
  replace HD4 := hid (HD4.out.on hb12)
  replace HBel := hid (Below.on HBel.out hb12)
  have HV := hid h12
  clear h12 hb12
  clear HD3 HD4
  go_wp2_with fail
  refine (subtract_reg HA.out HB.out KA.out KB.out (by decide)).mono ?_
  rintro e w13 ⟨a13, c13, rfl, h13, hb13⟩
  replace HA := hid (HA.out.on hb13)
  replace HB := hid (HB.out.on hb13)
  replace HC := hid (HC.out.on hb13)
  replace HX := hid (HX.out.on hb13)
  replace HY := hid (HY.out.on hb13)
  replace HZ := hid (HZ.out.on hb13)
  replace HV := hid (HV.out.on hb13)
  replace HBel := hid (Below.on HBel.out hb13)
  have HD5 := hid h13
  clear h13 hb13
  go_wp2_with fail
  refine (subtract_reg HD5.out HC.out (gd_both (f := sub) KA.out KB.out rfl) KC.out (by decide)).mono ?_
  rintro e w14 ⟨a14, c14, rfl, h14, hb14⟩
  replace HA := hid (HA.out.on hb14)
  replace HB := hid (HB.out.on hb14)
  replace HC := hid (HC.out.on hb14)
  replace HX := hid (HX.out.on hb14)
  replace HY := hid (HY.out.on hb14)
  replace HZ := hid (HZ.out.on hb14)
  replace HV := hid (HV.out.on hb14)
  replace HD5 := hid (HD5.out.on hb14)
  replace HBel := hid (Below.on HBel.out hb14)
  have HT := hid h14
  clear h14 hb14
  clear HD5
  go_wp2_with fail
  refine (same_reg HX.out HY.out (eq1 KA.out.reg KB.out.reg KC.out.reg)).mono ?_
  rintro e w15 ⟨rfl, hb15⟩
  replace HA := hid (HA.out.on hb15)
  replace HB := hid (HB.out.on hb15)
  replace HC := hid (HC.out.on hb15)
  replace HX := hid (HX.out.on hb15)
  replace HY := hid (HY.out.on hb15)
  replace HZ := hid (HZ.out.on hb15)
  replace HV := hid (HV.out.on hb15)
  replace HT := hid (HT.out.on hb15)
  replace HBel := hid (Below.on HBel.out hb15)
  clear hb15
  clear HX HY
  go_wp2_with fail
  refine (same_reg HZ.out HV.out (eq2 KA.out.reg KB.out.reg KC.out.reg)).mono ?_
  rintro e w16 ⟨rfl, hb16⟩
  replace HA := hid (HA.out.on hb16)
  replace HB := hid (HB.out.on hb16)
  replace HC := hid (HC.out.on hb16)
  replace HZ := hid (HZ.out.on hb16)
  replace HV := hid (HV.out.on hb16)
  replace HT := hid (HT.out.on hb16)
  replace HBel := hid (Below.on HBel.out hb16)
  clear hb16
  clear HZ HV
  go_wp2_with fail
  refine (union_reg HB.out HC.out KB.out KC.out (by decide)).mono ?_
  rintro e w17 ⟨a17, c17, rfl, h17, hb17⟩
  replace HA := hid (HA.out.on hb17)
  replace HB := hid (HB.out.on hb17)
  replace HC := hid (HC.out.on hb17)
  replace HT := hid (HT.out.on hb17)
  replace HBel := hid (Below.on HBel.out hb17)
  have HE := hid h17
  clear h17 hb17
  go_wp2_with fail
  refine (subtract_reg HA.out HE.out KA.out (gd_both (f := or) KB.out KC.out rfl) (by decide)).mono ?_
  rintro e w18 ⟨a18, c18, rfl, h18, hb18⟩
  replace HA := hid (HA.out.on hb18)
  replace HB := hid (HB.out.on hb18)
  replace HC := hid (HC.out.on hb18)
  replace HT := hid (HT.out.on hb18)
  replace HE := hid (HE.out.on hb18)
  replace HBel := hid (Below.on HBel.out hb18)
  have HG := hid h18
  clear h18 hb18
  clear HE
  go_wp2_with fail
  refine (same_reg HT.out HG.out (eq3 KA.out.reg KB.out.reg KC.out.reg)).mono ?_
  rintro e w19 ⟨rfl, hb19⟩
  replace HA := hid (HA.out.on hb19)
  replace HB := hid (HB.out.on hb19)
  replace HC := hid (HC.out.on hb19)
  replace HT := hid (HT.out.on hb19)
  replace HG := hid (HG.out.on hb19)
  replace HBel := hid (Below.on HBel.out hb19)
  clear hb19
  clear HT HG
  go_wp2_with fail
  refine (union_reg HA.out HA.out KA.out KA.out (by decide)).mono ?_
  rintro e w20 ⟨a20, c20, rfl, h20, hb20⟩
  replace HA := hid (HA.out.on hb20)
  replace HB := hid (HB.out.on hb20)
  replace HC := hid (HC.out.on hb20)
  replace HBel := hid (Below.on HBel.out hb20)
  have HQ := hid h20
  clear h20 hb20
  go_wp2_with fail
  refine (same_reg HQ.out HA.out (eq4 KA.out.reg)).mono ?_
  rintro e w21 ⟨rfl, hb21⟩
  replace HA := hid (HA.out.on hb21)
  replace HB := hid (HB.out.on hb21)
  replace HC := hid (HC.out.on hb21)
  replace HQ := hid (HQ.out.on hb21)
  replace HBel := hid (Below.on HBel.out hb21)
  clear hb21
  clear HQ
  go_wp2_with fail
  refine (intersect_reg HA.out HA.out KA.out KA.out (by decide)).mono ?_
  rintro e w22 ⟨a22, c22, rfl, h22, hb22⟩
  replace HA := hid (HA.out.on hb22)
  replace HB := hid (HB.out.on hb22)
  replace HC := hid (HC.out.on hb22)
  replace HBel := hid (Below.on HBel.out hb22)
  have HQ2 := hid h22
  clear h22 hb22
  go_wp2_with fail
  refine (same_reg HQ2.out HA.out (eq5 KA.out.reg)).mono ?_
  rintro e w23 ⟨rfl, hb23⟩
  replace HA := hid (HA.out.on hb23)
  replace HB := hid (HB.out.on hb23)
  replace HC := hid (HC.out.on hb23)
  replace HQ2 := hid (HQ2.out.on hb23)
  replace HBel := hid (Below.on HBel.out hb23)
  clear hb23
  clear HQ2
  go_wp2_with fail
  refine (awake_any _).mono ?_
  rintro e w24 ⟨rfl, hb24⟩
  replace HA := hid (HA.out.on hb24)
  replace HB := hid (HB.out.on hb24)
  replace HC := hid (HC.out.on hb24)
  replace HBel := hid (Below.on HBel.out hb24)
  clear hb24
  go_wp2
  go_ret
  exact ⟨rfl, HBel.out⟩
end Go.Proofs.Ytgogpckjlfgdcaa.regionLaws
