/- RegionPlays: for every two lists of rectangles and two numbers the call returns true; nothing that was there has turned. -/
import Derived.Test.YtgogpckjlfgdcaaRgfJ
namespace Go.Proofs.Ytgogpckjlfgdcaa.regionPlays
open Go Go.RowKit

set_option maxRecDepth 100000 in
set_option maxHeartbeats 1000000 in
theorem core (a0 : Option Addr) (n0 c0 : Nat) (l0 : List (List Int)) (a1 : Option Addr) (n1 c1 : Nat) (l1 : List (List Int)) (x y : Int) (w : World) (r0 : RdN 4 w a0 n0 c0 l0) (r1 : RdN 4 w a1 n1 c1 l1) (hx : -9223372036854775808 ≤ x ∧ x ≤ 9223372036854775807) (hy : -9223372036854775808 ≤ y ∧ y ≤ 9223372036854775807) :
    Calls Try.prog 4 #[.slice a0 n0 c0, .slice a1 n1 c1, .int .i64 x, .int .i64 y] w fun e w' => e = .returned (.bool true) ∧ Below w.heap.size w w' := by
  have HP0 := hid (rdc_of_rdn r0)
  have HP1 := hid (rdc_of_rdn r1)
  have HBel := hid (Below.refl w.heap.size w)
  clear r0 r1
  go_enter Try.func4, Try.ntmps4
  go_wp2_with fail
  refine (made_reg HP0.out).mono ?_
  rintro e w1 ⟨A, KA, a1, c1, rfl, h1, hb1⟩
  replace HP0 := hid (HP0.out.on hb1)
  replace HP1 := hid (HP1.out.on hb1)
  replace HBel := hid (Below.on HBel.out hb1)
  have HA := hid h1
  clear h1 hb1
  replace KA := hid KA
  go_wp2_with fail
  refine (made_reg HP1.out).mono ?_
  rintro e w2 ⟨B, KB, a2, c2, rfl, h2, hb2⟩
  replace HP0 := hid (HP0.out.on hb2)
  replace HP1 := hid (HP1.out.on hb2)
  replace HA := hid (HA.out.on hb2)
  replace HBel := hid (Below.on HBel.out hb2)
  have HB := hid h2
  clear h2 hb2
  replace KB := hid KB
  clear HP0 HP1
  have hAl := KA.out.len
  have hBl := KB.out.len
  go_wp2_with fail
  refine (rects_any _ _ _ _ _ HA.out (by omega)).mono ?_
  rintro e w3 ⟨a3, c3, rfl, h3, hb3⟩
  replace HA := hid (HA.out.on hb3)
  replace HB := hid (HB.out.on hb3)
  replace HBel := hid (Below.on HBel.out hb3)
  have HP := hid h3
  clear h3 hb3
  go_wp2_with fail
  refine (rects_any _ _ _ _ _ HB.out (by omega)).mono ?_
  rintro e w4 ⟨a4, c4, rfl, h4, hb4⟩
  replace HA := hid (HA.out.on hb4)
  replace HB := hid (HB.out.on hb4)
  replace HP := hid (HP.out.on hb4)
  replace HBel := hid (Below.on HBel.out hb4)
  have HQ := hid h4
  clear h4 hb4
  have q1 := plc_lt x 4096 (by decide)
  have q2 := plc_lt y 4096 (by decide)
  have CP := hid (fun u => place_any x 4096 hx (by decide) (by decide) u)
  have CQ := hid (fun u => place_any y 4096 hy (by decide) (by decide) u)
  go_wp2_with fail
  refine (CP.out _).mono ?_
  rintro e w9 ⟨rfl, rfl⟩
  go_wp2_with fail
  refine (CQ.out _).mono ?_
  rintro e w9 ⟨rfl, rfl⟩
  clear CP CQ
  generalize plc x 4096 = X1 at q1 ⊢
  generalize plc y 4096 = Y1 at q2 ⊢
  have f2 : IntKind.i64.wrap (-(Y1 : Int)) = -(Y1 : Int) := by rw [IntKind.wrap_i64]; omega
  have eg := eqlR_guard
  go_wp2_with fail
  refine (check_reg HP.out KA.out.reg).mono ?_
  rintro e w5 ⟨rfl, hb5⟩
  replace HA := hid (HA.out.on hb5)
  replace HB := hid (HB.out.on hb5)
  replace HP := hid (HP.out.on hb5)
  replace HQ := hid (HQ.out.on hb5)
  replace HBel := hid (Below.on HBel.out hb5)
  clear hb5
  go_wp2_with fail
  refine (union_reg HP.out HQ.out KA.out KB.out (by decide)).mono ?_
  rintro e w6 ⟨a6, c6, rfl, h6, hb6⟩
  replace HA := hid (HA.out.on hb6)
  replace HB := hid (HB.out.on hb6)
  replace HP := hid (HP.out.on hb6)
  replace HQ := hid (HQ.out.on hb6)
  replace HBel := hid (Below.on HBel.out hb6)
  have HU := hid h6
  clear h6 hb6
  go_wp2_with fail
  refine (rmake_any _ _ _ _ _ _ _ _ 0 _ HA.out HB.out (by omega)).mono ?_
  rintro e w7 ⟨a7, c7, rfl, h7, hb7⟩
  replace HA := hid (HA.out.on hb7)
  replace HB := hid (HB.out.on hb7)
  replace HP := hid (HP.out.on hb7)
  replace HQ := hid (HQ.out.on hb7)
  replace HU := hid (HU.out.on hb7)
  replace HBel := hid (Below.on HBel.out hb7)
  have HUr := hid h7
  clear h7 hb7
  go_wp2_with fail
  refine (same_reg HU.out HUr.out (by rw [unn_reg KA.out.reg KB.out.reg]; rfl)).mono ?_
  rintro e w8 ⟨rfl, hb8⟩
  replace HA := hid (HA.out.on hb8)
  replace HB := hid (HB.out.on hb8)
  replace HP := hid (HP.out.on hb8)
  replace HQ := hid (HQ.out.on hb8)
  replace HU := hid (HU.out.on hb8)
  replace HUr := hid (HUr.out.on hb8)
  replace HBel := hid (Below.on HBel.out hb8)
  clear hb8
  clear HU HUr
  go_wp2_with fail
  refine (subtract_reg HP.out HQ.out KA.out KB.out (by decide)).mono ?_
  rintro e w9 ⟨a9, c9, rfl, h9, hb9⟩
  replace HA := hid (HA.out.on hb9)
  replace HB := hid (HB.out.on hb9)
  replace HP := hid (HP.out.on hb9)
  replace HQ := hid (HQ.out.on hb9)
  replace HBel := hid (Below.on HBel.out hb9)
  have HS := hid h9
  clear h9 hb9
  go_wp2_with fail
  refine (rmake_any _ _ _ _ _ _ _ _ 1 _ HA.out HB.out (by omega)).mono ?_
  rintro e w10 ⟨a10, c10, rfl, h10, hb10⟩
  replace HA := hid (HA.out.on hb10)
  replace HB := hid (HB.out.on hb10)
  replace HP := hid (HP.out.on hb10)
  replace HQ := hid (HQ.out.on hb10)
  replace HS := hid (HS.out.on hb10)
  replace HBel := hid (Below.on HBel.out hb10)
  have HSr := hid h10
  clear h10 hb10
  go_wp2_with fail
  refine (same_reg HS.out HSr.out (by rw [unn_reg KA.out.reg KB.out.reg]; rfl)).mono ?_
  rintro e w11 ⟨rfl, hb11⟩
  replace HA := hid (HA.out.on hb11)
  replace HB := hid (HB.out.on hb11)
  replace HP := hid (HP.out.on hb11)
  replace HQ := hid (HQ.out.on hb11)
  replace HS := hid (HS.out.on hb11)
  replace HSr := hid (HSr.out.on hb11)
  replace HBel := hid (Below.on HBel.out hb11)
  clear hb11
  clear HS HSr
  go_wp2_with fail
  refine (intersect_reg HP.out HQ.out KA.out KB.out (by decide)).mono ?_
  rintro e w12 ⟨a12, c12, rfl, h12, hb12⟩
  replace HA := hid (HA.out.on hb12)
  replace HB := hid (HB.out.on hb12)
  replace HP := hid (HP.out.on hb12)
  replace HQ := hid (HQ.out.on hb12)
  replace HBel := hid (Below.on HBel.out hb12)
  have HC := hid h12
  clear h12 hb12
  go_wp2_with fail
  refine (rmake_any _ _ _ _ _ _ _ _ 2 _ HA.out HB.out (by omega)).mono ?_
  rintro e w13 ⟨a13, c13, rfl, h13, hb13⟩
  replace HA := hid (HA.out.on hb13)
  replace HB := hid (HB.out.on hb13)
  replace HP := hid (HP.out.on hb13)
  replace HQ := hid (HQ.out.on hb13)
  replace HC := hid (HC.out.on hb13)
  replace HBel := hid (Below.on HBel.out hb13)
  have HCr := hid h13
  clear h13 hb13
  go_wp2_with fail
  refine (same_reg HC.out HCr.out (by rw [unn_reg KA.out.reg KB.out.reg]; rfl)).mono ?_
  rintro e w14 ⟨rfl, hb14⟩
  replace HA := hid (HA.out.on hb14)
  replace HB := hid (HB.out.on hb14)
  replace HP := hid (HP.out.on hb14)
  replace HQ := hid (HQ.out.on hb14)
  replace HC := hid (HC.out.on hb14)
  replace HCr := hid (HCr.out.on hb14)
  replace HBel := hid (Below.on HBel.out hb14)
  clear hb14
  clear HC HCr
  go_wp2_with fail
  refine (shiftreg_any _ _ _ _ (X1 : Int) (-(Y1 : Int)) _ HP.out (by omega)).mono ?_
  rintro e w15 ⟨a15, c15, rfl, h15, hb15⟩
  replace HA := hid (HA.out.on hb15)
  replace HB := hid (HB.out.on hb15)
  replace HP := hid (HP.out.on hb15)
  replace HQ := hid (HQ.out.on hb15)
  replace HBel := hid (Below.on HBel.out hb15)
  have HM := hid h15
  clear h15 hb15
  go_wp2_with fail
  refine (rshiftreg_any _ _ _ _ (X1 : Int) (-(Y1 : Int)) (by omega) (by omega) _ HA.out (by omega)).mono ?_
  rintro e w16 ⟨a16, c16, rfl, h16, hb16⟩
  replace HA := hid (HA.out.on hb16)
  replace HB := hid (HB.out.on hb16)
  replace HP := hid (HP.out.on hb16)
  replace HQ := hid (HQ.out.on hb16)
  replace HM := hid (HM.out.on hb16)
  replace HBel := hid (Below.on HBel.out hb16)
  have HN := hid h16
  clear h16 hb16
  go_wp2_with fail
  refine (same_reg HM.out HN.out rfl).mono ?_
  rintro e w17 ⟨rfl, hb17⟩
  replace HA := hid (HA.out.on hb17)
  replace HB := hid (HB.out.on hb17)
  replace HP := hid (HP.out.on hb17)
  replace HQ := hid (HQ.out.on hb17)
  replace HM := hid (HM.out.on hb17)
  replace HN := hid (HN.out.on hb17)
  replace HBel := hid (Below.on HBel.out hb17)
  clear hb17
  clear HM HN
  go_wp2_with fail
  refine (rcoverall_any _ _ _ _ _ HP.out).mono ?_
  rintro e z1 ⟨s1, hs1, rfl, hbz⟩
  replace hs1 := hid hs1
  replace HA := hid (HA.out.on hbz)
  replace HB := hid (HB.out.on hbz)
  replace HP := hid (HP.out.on hbz)
  replace HQ := hid (HQ.out.on hbz)
  replace HBel := hid (Below.on HBel.out hbz)
  clear hbz
  go_wp2_with fail
  refine (rcovers_any _ _ _ _ _ HA.out (by omega)).mono ?_
  rintro e z2 ⟨s2, hs2, rfl, hbz⟩
  replace hs2 := hid hs2
  replace HA := hid (HA.out.on hbz)
  replace HB := hid (HB.out.on hbz)
  replace HP := hid (HP.out.on hbz)
  replace HQ := hid (HQ.out.on hbz)
  replace HBel := hid (Below.on HBel.out hbz)
  clear hbz
  obtain rfl : s1 = s2 := hs1.out.trans hs2.out.symm
  clear hs1 hs2
  have r1 := eqlR s1 s1
  rw [rceq_same] at r1
  have DR := hid (fun u (a : Option Addr) (c : Nat) (h : RdC u a A.length c A) => rarea_any a A.length c A u h (by omega))
  rw [if_pos (rgn_iff.2 KA.out.reg)] at DR
  go_wp2_with fail
  refine (area_reg HP.out KA.out (by decide)).mono ?_
  rintro e w18 ⟨rfl, hb18⟩
  replace HA := hid (HA.out.on hb18)
  replace HB := hid (HB.out.on hb18)
  replace HP := hid (HP.out.on hb18)
  replace HQ := hid (HQ.out.on hb18)
  replace HBel := hid (Below.on HBel.out hb18)
  clear hb18
  go_wp2_with fail
  refine (DR.out _ _ _ HA.out).mono ?_
  rintro e w19 ⟨rfl, hb19⟩
  replace HA := hid (HA.out.on hb19)
  replace HB := hid (HB.out.on hb19)
  replace HP := hid (HP.out.on hb19)
  replace HQ := hid (HQ.out.on hb19)
  replace HBel := hid (Below.on HBel.out hb19)
  clear hb19
  go_wp2_with fail
  refine (awake_any _).mono ?_
  rintro e w20 ⟨rfl, hb20⟩
  replace HA := hid (HA.out.on hb20)
  replace HB := hid (HB.out.on hb20)
  replace HP := hid (HP.out.on hb20)
  replace HQ := hid (HQ.out.on hb20)
  replace HBel := hid (Below.on HBel.out hb20)
  clear hb20
  go_wp2
  go_ret
  exact ⟨rfl, HBel.out⟩

theorem walk (a0 : Option Addr) (n0 c0 : Nat) (l0 : List (List Int)) (a1 : Option Addr) (n1 c1 : Nat) (l1 : List (List Int)) (x y : Int) (w : World) (r0 : RdN 4 w a0 n0 c0 l0) (r1 : RdN 4 w a1 n1 c1 l1) (hx : (Lit.int .i64 x).wf = true) (hy : (Lit.int .i64 y).wf = true) :
    Calls Try.prog 4 #[.slice a0 n0 c0, .slice a1 n1 c1, .int .i64 x, .int .i64 y] w fun e w' => e = .returned (.bool true) ∧ Below w.heap.size w w' := core a0 n0 c0 l0 a1 n1 c1 l1 x y w r0 r1 (range64 hx) (range64 hy)
end Go.Proofs.Ytgogpckjlfgdcaa.regionPlays
