/- RegionAll: for every two lists of rectangles, a rectangle and two numbers the call returns true; nothing that was there has turned. -/
import Derived.Test.YtgogpckjlfgdcaaRgfJ
namespace Go.Proofs.Ytgogpckjlfgdcaa.regionAll
open Go Go.RowKit

set_option maxRecDepth 100000 in
set_option maxHeartbeats 1000000 in
theorem core (a0 : Option Addr) (c0 : Nat) (A : List Rc) (a1 : Option Addr) (c1 : Nat) (B : List Rc) (r : Rc) (ok : r.Ok) (x y : Int) (hx : -9223372036854775808 ≤ x ∧ x ≤ 9223372036854775807) (hy : -9223372036854775808 ≤ y ∧ y ≤ 9223372036854775807) (w : World) (r0 : RdC w a0 A.length c0 A) (r1 : RdC w a1 B.length c1 B) :
    Calls Try.prog 3 #[.slice a0 A.length c0, .slice a1 B.length c1, .agg #[.int .i64 r.x, .int .i64 r.y, .int .i64 r.w, .int .i64 r.h], .int .i64 x, .int .i64 y] w fun e w' => e = .returned (.bool true) ∧ Below w.heap.size w w' := by
  have HX := hid (bx_new w r)
  have HA := hid (r0.on (below_new w (ob r)))
  have HB := hid (r1.on (below_new w (ob r)))
  have HBel := hid (below_new w (ob r))
  rw [ob] at HA HB HBel
  have CA := hid (fun u hu => few_any a0 A.length c0 A u hu)
  have CB := hid (fun u hu => few_any a1 B.length c1 B u hu)
  clear r0 r1
  cases hA : decide (A.length ≤ 12)
  · rw [hA] at CA
    clear hA
    go_enter Try.func3, Try.ntmps3
    go_wp2_with fail
    refine (CA.out _ HA.out).mono ?_
    rintro e w1 ⟨rfl, rfl⟩
    go_wp2_with fail
    refine (awake_any _).mono ?_
    rintro e w2 ⟨rfl, hb2⟩
    replace HBel := hid (Below.on HBel.out hb2)
    clear hb2
    go_wp2
    go_ret
    exact ⟨rfl, HBel.out⟩
  rw [hA] at CA
  replace hA := of_decide_eq_true hA
  cases hB : decide (B.length ≤ 12)
  · rw [hB] at CB
    clear hB
    go_enter Try.func3, Try.ntmps3
    go_wp2_with fail
    refine (CA.out _ HA.out).mono ?_
    rintro e w1 ⟨rfl, rfl⟩
    go_wp2_with fail
    refine (CB.out _ HB.out).mono ?_
    rintro e w1 ⟨rfl, rfl⟩
    go_wp2_with fail
    refine (awake_any _).mono ?_
    rintro e w2 ⟨rfl, hb2⟩
    replace HBel := hid (Below.on HBel.out hb2)
    clear hb2
    go_wp2
    go_ret
    exact ⟨rfl, HBel.out⟩
  rw [hB] at CB
  replace hB := of_decide_eq_true hB
  have CK := hid (fun u (a : Option Addr) (c : Nat) (h : RdC u a A.length c A) => regcheck_any a A.length c A u h)
  have CR := hid (fun u (a : Option Addr) (c : Nat) (h : RdC u a A.length c A) => rregcheck_any a A.length c A u h (by omega))
  have DA := hid (fun u (a : Option Addr) (c : Nat) (h : RdC u a A.length c A) => area_any a A.length c A u h (by omega))
  have DR := hid (fun u (a : Option Addr) (c : Nat) (h : RdC u a A.length c A) => rarea_any a A.length c A u h (by omega))
  have DH := hid (fun u (a : Option Addr) (c : Nat) (h : RdC u a A.length c A) => reghas_any a A.length c A x y hx hy u h)
  have DP := hid (fun u (a : Option Addr) (c : Nat) (h : RdC u a A.length c A) => rpt_any a A.length c A x y hx hy u h)
  obtain ⟨V, hV⟩ : ∃ V, (if rgn A = true then area A else 0) = V := ⟨_, rfl⟩
  rw [hV] at DA DR
  clear hV
  generalize pt A x y = α at DH DP
  have n1 : ∀ z : Bool, (z == z) = true := fun z => by simp
  have eg := eqlR_guard
  have HOK := hid ok
  clear ok
  cases hβ : rgn A
  · rw [hβ] at CK CR
    rw [hβ, Bool.false_and] at DH
    clear hβ
    go_enter Try.func3, Try.ntmps3
    go_wp2_with fail
    refine (CA.out _ HA.out).mono ?_
    rintro e w1 ⟨rfl, rfl⟩
    go_wp2_with fail
    refine (CB.out _ HB.out).mono ?_
    rintro e w1 ⟨rfl, rfl⟩
    clear CA CB
    go_wp2_with fail
    refine (rects_any _ _ _ _ _ HA.out (by omega)).mono ?_
    rintro e w1 ⟨a1, c1, rfl, h1, hb1⟩
    replace HX := hid (HX.out.on hb1)
    replace HA := hid (HA.out.on hb1)
    replace HB := hid (HB.out.on hb1)
    replace HBel := hid (Below.on HBel.out hb1)
    have HP := hid h1
    clear h1 hb1
    go_wp2_with fail
    refine (rects_any _ _ _ _ _ HB.out (by omega)).mono ?_
    rintro e w2 ⟨a2, c2, rfl, h2, hb2⟩
    replace HX := hid (HX.out.on hb2)
    replace HA := hid (HA.out.on hb2)
    replace HB := hid (HB.out.on hb2)
    replace HP := hid (HP.out.on hb2)
    replace HBel := hid (Below.on HBel.out hb2)
    have HQ := hid h2
    clear h2 hb2
    go_upto_region 4 with fail
    refine wp_region_held_drew (S := fun x => Below w2.heap.size w2 x) (by kernel_rfl) (Below.refl _ _).drew (fun hHeld => ?_)
    have hHeld : Below w2.heap.size w2 w2.drew := hHeld
    refine wpAnyH_take (i := 0) (v := ?_) rfl (by kernel_rfl) (by kernel_rfl) (by kernel_rfl) (fun _ _ _ h => h) (Or.inl ⟨by kernel_rfl, ?hy0⟩) (by assumption) ?_
    case hy0 => (intro w hSw; (try dsimp only at hSw); obtain ⟨t00, t01, t02, t03⟩ := (HX.out.on hSw).all; go_simp; try with_reducible rfl)
    try simp only [Act.put, List.getElem_toArray, List.getElem_cons_zero, List.setIfInBounds_toArray, List.set_cons_zero, List.set_cons_succ]
    refine wpAnyH_take (i := 2) (v := ?_) rfl (by kernel_rfl) (by kernel_rfl) (by kernel_rfl) (fun _ _ _ h => h) (Or.inl ⟨by kernel_rfl, ?hy2⟩) (by assumption) ?_
    case hy2 => (intro w hSw; (try dsimp only at hSw); obtain ⟨t00, t01, t02, t03⟩ := (HX.out.on hSw).all; go_simp; try with_reducible rfl)
    try simp only [Act.put, List.getElem_toArray, List.getElem_cons_zero, List.getElem_cons_succ, List.setIfInBounds_toArray, List.set_cons_zero, List.set_cons_succ]
    refine wpAnyH_ready (rs := [1]) (by kernel_rfl) (by simp) ?_
    refine AllReadyH.cons rfl (fun K hK => ?_) AllReadyH.nil
    go_simp
    go_wp2_with fail
    refine (CK.out _ _ _ (HP.out.on hHeld)).mono ?_
    rintro e v21 ⟨rfl, hb21⟩
    replace hHeld := Below.on hHeld hb21
    refine hK.out _ _ hHeld (fun _ => ?_)
    clear hK K hb21
    refine wpAnyH_ready (rs := [3]) (by kernel_rfl) (by simp) ?_
    refine AllReadyH.cons rfl (fun K hK => ?_) AllReadyH.nil
    go_simp
    go_wp2_with fail
    refine (CR.out _ _ _ (HA.out.on hHeld)).mono ?_
    rintro e v22 ⟨rfl, hb22⟩
    replace hHeld := Below.on hHeld hb22
    refine hK.out _ _ hHeld (fun _ => ?_)
    clear hK K hb22
    refine wpAnyH_take (i := 4) (v := ?_) rfl (by kernel_rfl) (by kernel_rfl) (by kernel_rfl) (fun _ _ _ h => h) (Or.inl ⟨by kernel_rfl, ?hy4⟩) (by assumption) ?_
    case hy4 => (intro w hSw; (try dsimp only at hSw); obtain ⟨t00, t01, t02, t03⟩ := (HX.out.on hSw).all; go_simp; try with_reducible rfl)
    try simp only [Act.put, List.getElem_toArray, List.getElem_cons_zero, List.getElem_cons_succ, List.setIfInBounds_toArray, List.set_cons_zero, List.set_cons_succ]
    refine wpAnyH_take (i := 5) (v := ?_) rfl (by kernel_rfl) (by kernel_rfl) (by kernel_rfl) (fun _ _ _ h => h) (Or.inl ⟨by kernel_rfl, ?hy5⟩) (by assumption) ?_
    case hy5 => (intro w hSw; (try dsimp only at hSw); obtain ⟨t00, t01, t02, t03⟩ := (HX.out.on hSw).all; go_simp; try with_reducible rfl)
    try simp only [Act.put, List.getElem_toArray, List.getElem_cons_zero, List.getElem_cons_succ, List.setIfInBounds_toArray, List.set_cons_zero, List.set_cons_succ]
    refine wpAnyH_take (i := 6) (v := ?_) rfl (by kernel_rfl) (by kernel_rfl) (by kernel_rfl) (fun _ _ _ h => h) (Or.inl ⟨by kernel_rfl, ?hy6⟩) (by assumption) ?_
    case hy6 => (intro w hSw; (try dsimp only at hSw); obtain ⟨t00, t01, t02, t03⟩ := (HX.out.on hSw).all; go_simp; try with_reducible rfl)
    try simp only [Act.put, List.getElem_toArray, List.getElem_cons_zero, List.getElem_cons_succ, List.setIfInBounds_toArray, List.set_cons_zero, List.set_cons_succ]
    refine wpAnyH_take (i := 8) (v := ?_) rfl (by kernel_rfl) (by kernel_rfl) (by kernel_rfl) (fun _ _ _ h => h) (Or.inl ⟨by kernel_rfl, ?hy8⟩) (by assumption) ?_
    case hy8 => (intro w hSw; (try dsimp only at hSw); obtain ⟨t00, t01, t02, t03⟩ := (HX.out.on hSw).all; go_simp; try with_reducible rfl)
    try simp only [Act.put, List.getElem_toArray, List.getElem_cons_zero, List.getElem_cons_succ, List.setIfInBounds_toArray, List.set_cons_zero, List.set_cons_succ]
    refine wpAnyH_ready (rs := [7]) (by kernel_rfl) (by simp) ?_
    refine AllReadyH.cons rfl (fun K hK => ?_) AllReadyH.nil
    go_simp
    go_wp2_with fail
    refine (of_any r HOK.out _).mono ?_
    rintro e v23 ⟨b23, d23, rfl, h23, hb23⟩
    replace hHeld := Below.on hHeld hb23
    have G23 := hid h23
    refine hK.out _ _ hHeld (fun _ => ?_)
    clear hK K hb23 h23
    refine wpAnyH_ready (rs := [9]) (by kernel_rfl) (by simp) ?_
    refine AllReadyH.cons rfl (fun K hK => ?_) AllReadyH.nil
    go_simp
    go_wp2_with fail
    refine (rofl_any r HOK.out _).mono ?_
    rintro e v24 ⟨b24, d24, rfl, h24, hb24⟩
    replace G23 := hid (G23.out.on hb24)
    replace hHeld := Below.on hHeld hb24
    have G24 := hid h24
    refine hK.out _ _ hHeld (fun _ => ?_)
    clear hK K hb24 h24
    refine wpAnyH_ready (rs := [10]) (by kernel_rfl) (by simp) ?_
    refine AllReadyH.cons rfl (fun K hK => ?_) AllReadyH.nil
    go_simp
    go_wp2_with fail
    refine (same_reg G23.out G24.out rfl).mono ?_
    rintro e v25 ⟨rfl, hb25⟩
    replace hHeld := Below.on hHeld hb25
    refine hK.out _ _ hHeld (fun _ => ?_)
    clear hK K hb25
    refine wpAnyH_take (i := 11) (v := ?_) rfl (by kernel_rfl) (by kernel_rfl) (by kernel_rfl) (fun _ _ _ h => h) (Or.inl ⟨by kernel_rfl, ?hy11⟩) (by assumption) ?_
    case hy11 => (intro w hSw; (try dsimp only at hSw); obtain ⟨t00, t01, t02, t03⟩ := (HX.out.on hSw).all; go_simp; try with_reducible rfl)
    try simp only [Act.put, List.getElem_toArray, List.getElem_cons_zero, List.getElem_cons_succ, List.setIfInBounds_toArray, List.set_cons_zero, List.set_cons_succ]
    refine wpAnyH_take (i := 12) (v := ?_) rfl (by kernel_rfl) (by kernel_rfl) (by kernel_rfl) (fun _ _ _ h => h) (Or.inl ⟨by kernel_rfl, ?hy12⟩) (by assumption) ?_
    case hy12 => (intro w hSw; (try dsimp only at hSw); obtain ⟨t00, t01, t02, t03⟩ := (HX.out.on hSw).all; go_simp; try with_reducible rfl)
    try simp only [Act.put, List.getElem_toArray, List.getElem_cons_zero, List.getElem_cons_succ, List.setIfInBounds_toArray, List.set_cons_zero, List.set_cons_succ]
    refine wpAnyH_done (by kernel_rfl) ?_ _
    clear G23 G24
    replace HX := hid (HX.out.on hHeld)
    replace HA := hid (HA.out.on hHeld)
    replace HB := hid (HB.out.on hHeld)
    replace HP := hid (HP.out.on hHeld)
    replace HQ := hid (HQ.out.on hHeld)
    replace HBel := hid (Below.on HBel.out hHeld)
    clear hHeld HX
    go_wp2_with fail
    refine (union_any _ _ _ _ _ _ _ _ _ HP.out HQ.out (by omega)).mono ?_
    rintro e w3 ⟨a3, c3, rfl, h3, hb3⟩
    replace HA := hid (HA.out.on hb3)
    replace HB := hid (HB.out.on hb3)
    replace HP := hid (HP.out.on hb3)
    replace HQ := hid (HQ.out.on hb3)
    replace HBel := hid (Below.on HBel.out hb3)
    have HU := hid h3
    clear h3 hb3
    go_wp2_with fail
    refine (rmake_any _ _ _ _ _ _ _ _ 0 _ HA.out HB.out (by omega)).mono ?_
    rintro e w4 ⟨a4, c4, rfl, h4, hb4⟩
    replace HA := hid (HA.out.on hb4)
    replace HB := hid (HB.out.on hb4)
    replace HP := hid (HP.out.on hb4)
    replace HQ := hid (HQ.out.on hb4)
    replace HU := hid (HU.out.on hb4)
    replace HBel := hid (Below.on HBel.out hb4)
    have HUr := hid h4
    clear h4 hb4
    go_wp2_with fail
    refine (same_reg HU.out HUr.out rfl).mono ?_
    rintro e w5 ⟨rfl, hb5⟩
    replace HA := hid (HA.out.on hb5)
    replace HB := hid (HB.out.on hb5)
    replace HP := hid (HP.out.on hb5)
    replace HQ := hid (HQ.out.on hb5)
    replace HU := hid (HU.out.on hb5)
    replace HUr := hid (HUr.out.on hb5)
    replace HBel := hid (Below.on HBel.out hb5)
    clear hb5
    clear HU HUr
    go_wp2_with fail
    refine (subtract_any _ _ _ _ _ _ _ _ _ HP.out HQ.out (by omega)).mono ?_
    rintro e w6 ⟨a6, c6, rfl, h6, hb6⟩
    replace HA := hid (HA.out.on hb6)
    replace HB := hid (HB.out.on hb6)
    replace HP := hid (HP.out.on hb6)
    replace HQ := hid (HQ.out.on hb6)
    replace HBel := hid (Below.on HBel.out hb6)
    have HS := hid h6
    clear h6 hb6
    go_wp2_with fail
    refine (rmake_any _ _ _ _ _ _ _ _ 1 _ HA.out HB.out (by omega)).mono ?_
    rintro e w7 ⟨a7, c7, rfl, h7, hb7⟩
    replace HA := hid (HA.out.on hb7)
    replace HB := hid (HB.out.on hb7)
    replace HP := hid (HP.out.on hb7)
    replace HQ := hid (HQ.out.on hb7)
    replace HS := hid (HS.out.on hb7)
    replace HBel := hid (Below.on HBel.out hb7)
    have HSr := hid h7
    clear h7 hb7
    go_wp2_with fail
    refine (same_reg HS.out HSr.out rfl).mono ?_
    rintro e w8 ⟨rfl, hb8⟩
    replace HA := hid (HA.out.on hb8)
    replace HB := hid (HB.out.on hb8)
    replace HP := hid (HP.out.on hb8)
    replace HQ := hid (HQ.out.on hb8)
    replace HS := hid (HS.out.on hb8)
    replace HSr := hid (HSr.out.on hb8)
    replace HBel := hid (Below.on HBel.out hb8)
    clear hb8
    clear HS HSr
    go_wp2_with fail
    refine (intersect_any _ _ _ _ _ _ _ _ _ HP.out HQ.out (by omega)).mono ?_
    rintro e w9 ⟨a9, c9, rfl, h9, hb9⟩
    replace HA := hid (HA.out.on hb9)
    replace HB := hid (HB.out.on hb9)
    replace HP := hid (HP.out.on hb9)
    replace HQ := hid (HQ.out.on hb9)
    replace HBel := hid (Below.on HBel.out hb9)
    have HC := hid h9
    clear h9 hb9
    go_wp2_with fail
    refine (rmake_any _ _ _ _ _ _ _ _ 2 _ HA.out HB.out (by omega)).mono ?_
    rintro e w10 ⟨a10, c10, rfl, h10, hb10⟩
    replace HA := hid (HA.out.on hb10)
    replace HB := hid (HB.out.on hb10)
    replace HP := hid (HP.out.on hb10)
    replace HQ := hid (HQ.out.on hb10)
    replace HC := hid (HC.out.on hb10)
    replace HBel := hid (Below.on HBel.out hb10)
    have HCr := hid h10
    clear h10 hb10
    go_wp2_with fail
    refine (same_reg HC.out HCr.out rfl).mono ?_
    rintro e w11 ⟨rfl, hb11⟩
    replace HA := hid (HA.out.on hb11)
    replace HB := hid (HB.out.on hb11)
    replace HP := hid (HP.out.on hb11)
    replace HQ := hid (HQ.out.on hb11)
    replace HC := hid (HC.out.on hb11)
    replace HCr := hid (HCr.out.on hb11)
    replace HBel := hid (Below.on HBel.out hb11)
    clear hb11
    clear HC HCr
    go_wp2_with fail
    refine (shiftreg_any _ _ _ _ x y _ HP.out (by omega)).mono ?_
    rintro e w12 ⟨a12, c12, rfl, h12, hb12⟩
    replace HA := hid (HA.out.on hb12)
    replace HB := hid (HB.out.on hb12)
    replace HP := hid (HP.out.on hb12)
    replace HQ := hid (HQ.out.on hb12)
    replace HBel := hid (Below.on HBel.out hb12)
    have HM := hid h12
    clear h12 hb12
    go_wp2_with fail
    refine (rshiftreg_any _ _ _ _ x y hx hy _ HA.out (by omega)).mono ?_
    rintro e w13 ⟨a13, c13, rfl, h13, hb13⟩
    replace HA := hid (HA.out.on hb13)
    replace HB := hid (HB.out.on hb13)
    replace HP := hid (HP.out.on hb13)
    replace HQ := hid (HQ.out.on hb13)
    replace HM := hid (HM.out.on hb13)
    replace HBel := hid (Below.on HBel.out hb13)
    have HN := hid h13
    clear h13 hb13
    go_wp2_with fail
    refine (same_reg HM.out HN.out rfl).mono ?_
    rintro e w14 ⟨rfl, hb14⟩
    replace HA := hid (HA.out.on hb14)
    replace HB := hid (HB.out.on hb14)
    replace HP := hid (HP.out.on hb14)
    replace HQ := hid (HQ.out.on hb14)
    replace HM := hid (HM.out.on hb14)
    replace HN := hid (HN.out.on hb14)
    replace HBel := hid (Below.on HBel.out hb14)
    clear hb14
    clear HM HN
    go_wp2_with fail
    refine (rcoverall_any _ _ _ _ _ HP.out).mono ?_
    rintro e z1 ⟨s1, hs1, rfl, hbz⟩
    replace hs1 := hid hs1
    replace HA := hid (HA.out.on hbz)
    replace HB := hid (HB.out.on hbz)
    replace HP := hid (HP.out.on hbz)
    replace HQ := hid (HQ.out.on hbz)
    replace HBel := hid (Below.on HBel.out hbz)
    clear hbz
    go_wp2_with fail
    refine (rcovers_any _ _ _ _ _ HA.out (by omega)).mono ?_
    rintro e z2 ⟨s2, hs2, rfl, hbz⟩
    replace hs2 := hid hs2
    replace HA := hid (HA.out.on hbz)
    replace HB := hid (HB.out.on hbz)
    replace HP := hid (HP.out.on hbz)
    replace HQ := hid (HQ.out.on hbz)
    replace HBel := hid (Below.on HBel.out hbz)
    clear hbz
    obtain rfl : s1 = s2 := hs1.out.trans hs2.out.symm
    clear hs1 hs2
    have r1 := eqlR s1 s1
    rw [rceq_same] at r1
    go_wp2_with fail
    refine (DA.out _ _ _ HP.out).mono ?_
    rintro e w15 ⟨rfl, hb15⟩
    replace HA := hid (HA.out.on hb15)
    replace HB := hid (HB.out.on hb15)
    replace HP := hid (HP.out.on hb15)
    replace HQ := hid (HQ.out.on hb15)
    replace HBel := hid (Below.on HBel.out hb15)
    clear hb15
    go_wp2_with fail
    refine (DR.out _ _ _ HA.out).mono ?_
    rintro e w16 ⟨rfl, hb16⟩
    replace HA := hid (HA.out.on hb16)
    replace HB := hid (HB.out.on hb16)
    replace HP := hid (HP.out.on hb16)
    replace HQ := hid (HQ.out.on hb16)
    replace HBel := hid (Below.on HBel.out hb16)
    clear hb16
    go_wp2_with fail
    refine (DH.out _ _ _ HP.out).mono ?_
    rintro e w17 ⟨rfl, hb17⟩
    replace HA := hid (HA.out.on hb17)
    replace HB := hid (HB.out.on hb17)
    replace HP := hid (HP.out.on hb17)
    replace HQ := hid (HQ.out.on hb17)
    replace HBel := hid (Below.on HBel.out hb17)
    clear hb17
    go_wp2_with fail
    refine (CR.out _ _ _ HA.out).mono ?_
    rintro e w18 ⟨rfl, hb18⟩
    replace HA := hid (HA.out.on hb18)
    replace HB := hid (HB.out.on hb18)
    replace HP := hid (HP.out.on hb18)
    replace HQ := hid (HQ.out.on hb18)
    replace HBel := hid (Below.on HBel.out hb18)
    clear hb18
    go_wp2_with fail
    refine (same_reg HP.out HA.out rfl).mono ?_
    rintro e w19 ⟨rfl, hb19⟩
    replace HA := hid (HA.out.on hb19)
    replace HB := hid (HB.out.on hb19)
    replace HP := hid (HP.out.on hb19)
    replace HQ := hid (HQ.out.on hb19)
    replace HBel := hid (Below.on HBel.out hb19)
    clear hb19
    go_wp2_with fail
    refine (awake_any _).mono ?_
    rintro e w20 ⟨rfl, hb20⟩
    replace HA := hid (HA.out.on hb20)
    replace HB := hid (HB.out.on hb20)
    replace HP := hid (HP.out.on hb20)
    replace HQ := hid (HQ.out.on hb20)
    replace HBel := hid (Below.on HBel.out hb20)
    clear hb20
    go_wp2
    go_ret
    exact ⟨rfl, HBel.out⟩
  · rw [hβ] at CK CR
    rw [hβ, Bool.true_and] at DH
    clear hβ
    go_enter Try.func3, Try.ntmps3
    go_wp2_with fail
    refine (CA.out _ HA.out).mono ?_
    rintro e w1 ⟨rfl, rfl⟩
    go_wp2_with fail
    refine (CB.out _ HB.out).mono ?_
    rintro e w1 ⟨rfl, rfl⟩
    clear CA CB
    go_wp2_with fail
    refine (rects_any _ _ _ _ _ HA.out (by omega)).mono ?_
    rintro e w1 ⟨a1, c1, rfl, h1, hb1⟩
    replace HX := hid (HX.out.on hb1)
    replace HA := hid (HA.out.on hb1)
    replace HB := hid (HB.out.on hb1)
    replace HBel := hid (Below.on HBel.out hb1)
    have HP := hid h1
    clear h1 hb1
    go_wp2_with fail
    refine (rects_any _ _ _ _ _ HB.out (by omega)).mono ?_
    rintro e w2 ⟨a2, c2, rfl, h2, hb2⟩
    replace HX := hid (HX.out.on hb2)
    replace HA := hid (HA.out.on hb2)
    replace HB := hid (HB.out.on hb2)
    replace HP := hid (HP.out.on hb2)
    replace HBel := hid (Below.on HBel.out hb2)
    have HQ := hid h2
    clear h2 hb2
    go_upto_region 4 with fail
    refine wp_region_held_drew (S := fun x => Below w2.heap.size w2 x) (by kernel_rfl) (Below.refl _ _).drew (fun hHeld => ?_)
    have hHeld : Below w2.heap.size w2 w2.drew := hHeld
    refine wpAnyH_take (i := 0) (v := ?_) rfl (by kernel_rfl) (by kernel_rfl) (by kernel_rfl) (fun _ _ _ h => h) (Or.inl ⟨by kernel_rfl, ?hy0⟩) (by assumption) ?_
    case hy0 => (intro w hSw; (try dsimp only at hSw); obtain ⟨t00, t01, t02, t03⟩ := (HX.out.on hSw).all; go_simp; try with_reducible rfl)
    try simp only [Act.put, List.getElem_toArray, List.getElem_cons_zero, List.setIfInBounds_toArray, List.set_cons_zero, List.set_cons_succ]
    refine wpAnyH_take (i := 2) (v := ?_) rfl (by kernel_rfl) (by kernel_rfl) (by kernel_rfl) (fun _ _ _ h => h) (Or.inl ⟨by kernel_rfl, ?hy2⟩) (by assumption) ?_
    case hy2 => (intro w hSw; (try dsimp only at hSw); obtain ⟨t00, t01, t02, t03⟩ := (HX.out.on hSw).all; go_simp; try with_reducible rfl)
    try simp only [Act.put, List.getElem_toArray, List.getElem_cons_zero, List.getElem_cons_succ, List.setIfInBounds_toArray, List.set_cons_zero, List.set_cons_succ]
    refine wpAnyH_ready (rs := [1]) (by kernel_rfl) (by simp) ?_
    refine AllReadyH.cons rfl (fun K hK => ?_) AllReadyH.nil
    go_simp
    go_wp2_with fail
    refine (CK.out _ _ _ (HP.out.on hHeld)).mono ?_
    rintro e v21 ⟨rfl, hb21⟩
    replace hHeld := Below.on hHeld hb21
    refine hK.out _ _ hHeld (fun _ => ?_)
    clear hK K hb21
    refine wpAnyH_ready (rs := [3]) (by kernel_rfl) (by simp) ?_
    refine AllReadyH.cons rfl (fun K hK => ?_) AllReadyH.nil
    go_simp
    go_wp2_with fail
    refine (CR.out _ _ _ (HA.out.on hHeld)).mono ?_
    rintro e v22 ⟨rfl, hb22⟩
    replace hHeld := Below.on hHeld hb22
    refine hK.out _ _ hHeld (fun _ => ?_)
    clear hK K hb22
    refine wpAnyH_take (i := 4) (v := ?_) rfl (by kernel_rfl) (by kernel_rfl) (by kernel_rfl) (fun _ _ _ h => h) (Or.inl ⟨by kernel_rfl, ?hy4⟩) (by assumption) ?_
    case hy4 => (intro w hSw; (try dsimp only at hSw); obtain ⟨t00, t01, t02, t03⟩ := (HX.out.on hSw).all; go_simp; try with_reducible rfl)
    try simp only [Act.put, List.getElem_toArray, List.getElem_cons_zero, List.getElem_cons_succ, List.setIfInBounds_toArray, List.set_cons_zero, List.set_cons_succ]
    refine wpAnyH_take (i := 5) (v := ?_) rfl (by kernel_rfl) (by kernel_rfl) (by kernel_rfl) (fun _ _ _ h => h) (Or.inl ⟨by kernel_rfl, ?hy5⟩) (by assumption) ?_
    case hy5 => (intro w hSw; (try dsimp only at hSw); obtain ⟨t00, t01, t02, t03⟩ := (HX.out.on hSw).all; go_simp; try with_reducible rfl)
    try simp only [Act.put, List.getElem_toArray, List.getElem_cons_zero, List.getElem_cons_succ, List.setIfInBounds_toArray, List.set_cons_zero, List.set_cons_succ]
    refine wpAnyH_take (i := 6) (v := ?_) rfl (by kernel_rfl) (by kernel_rfl) (by kernel_rfl) (fun _ _ _ h => h) (Or.inl ⟨by kernel_rfl, ?hy6⟩) (by assumption) ?_
    case hy6 => (intro w hSw; (try dsimp only at hSw); obtain ⟨t00, t01, t02, t03⟩ := (HX.out.on hSw).all; go_simp; try with_reducible rfl)
    try simp only [Act.put, List.getElem_toArray, List.getElem_cons_zero, List.getElem_cons_succ, List.setIfInBounds_toArray, List.set_cons_zero, List.set_cons_succ]
    refine wpAnyH_take (i := 8) (v := ?_) rfl (by kernel_rfl) (by kernel_rfl) (by kernel_rfl) (fun _ _ _ h => h) (Or.inl ⟨by kernel_rfl, ?hy8⟩) (by assumption) ?_
    case hy8 => (intro w hSw; (try dsimp only at hSw); obtain ⟨t00, t01, t02, t03⟩ := (HX.out.on hSw).all; go_simp; try with_reducible rfl)
    try simp only [Act.put, List.getElem_toArray, List.getElem_cons_zero, List.getElem_cons_succ, List.setIfInBounds_toArray, List.set_cons_zero, List.set_cons_succ]
    refine wpAnyH_ready (rs := [7]) (by kernel_rfl) (by simp) ?_
    refine AllReadyH.cons rfl (fun K hK => ?_) AllReadyH.nil
    go_simp
    go_wp2_with fail
    refine (of_any r HOK.out _).mono ?_
    rintro e v23 ⟨b23, d23, rfl, h23, hb23⟩
    replace hHeld := Below.on hHeld hb23
    have G23 := hid h23
    refine hK.out _ _ hHeld (fun _ => ?_)
    clear hK K hb23 h23
    refine wpAnyH_ready (rs := [9]) (by kernel_rfl) (by simp) ?_
    refine AllReadyH.cons rfl (fun K hK => ?_) AllReadyH.nil
    go_simp
    go_wp2_with fail
    refine (rofl_any r HOK.out _).mono ?_
    rintro e v24 ⟨b24, d24, rfl, h24, hb24⟩
    replace G23 := hid (G23.out.on hb24)
    replace hHeld := Below.on hHeld hb24
    have G24 := hid h24
    refine hK.out _ _ hHeld (fun _ => ?_)
    clear hK K hb24 h24
    refine wpAnyH_ready (rs := [10]) (by kernel_rfl) (by simp) ?_
    refine AllReadyH.cons rfl (fun K hK => ?_) AllReadyH.nil
    go_simp
    go_wp2_with fail
    refine (same_reg G23.out G24.out rfl).mono ?_
    rintro e v25 ⟨rfl, hb25⟩
    replace hHeld := Below.on hHeld hb25
    refine hK.out _ _ hHeld (fun _ => ?_)
    clear hK K hb25
    refine wpAnyH_take (i := 11) (v := ?_) rfl (by kernel_rfl) (by kernel_rfl) (by kernel_rfl) (fun _ _ _ h => h) (Or.inl ⟨by kernel_rfl, ?hy11⟩) (by assumption) ?_
    case hy11 => (intro w hSw; (try dsimp only at hSw); obtain ⟨t00, t01, t02, t03⟩ := (HX.out.on hSw).all; go_simp; try with_reducible rfl)
    try simp only [Act.put, List.getElem_toArray, List.getElem_cons_zero, List.getElem_cons_succ, List.setIfInBounds_toArray, List.set_cons_zero, List.set_cons_succ]
    refine wpAnyH_take (i := 12) (v := ?_) rfl (by kernel_rfl) (by kernel_rfl) (by kernel_rfl) (fun _ _ _ h => h) (Or.inl ⟨by kernel_rfl, ?hy12⟩) (by assumption) ?_
    case hy12 => (intro w hSw; (try dsimp only at hSw); obtain ⟨t00, t01, t02, t03⟩ := (HX.out.on hSw).all; go_simp; try with_reducible rfl)
    try simp only [Act.put, List.getElem_toArray, List.getElem_cons_zero, List.getElem_cons_succ, List.setIfInBounds_toArray, List.set_cons_zero, List.set_cons_succ]
    refine wpAnyH_done (by kernel_rfl) ?_ _
    clear G23 G24
    replace HX := hid (HX.out.on hHeld)
    replace HA := hid (HA.out.on hHeld)
    replace HB := hid (HB.out.on hHeld)
    replace HP := hid (HP.out.on hHeld)
    replace HQ := hid (HQ.out.on hHeld)
    replace HBel := hid (Below.on HBel.out hHeld)
    clear hHeld HX
    go_wp2_with fail
    refine (union_any _ _ _ _ _ _ _ _ _ HP.out HQ.out (by omega)).mono ?_
    rintro e w3 ⟨a3, c3, rfl, h3, hb3⟩
    replace HA := hid (HA.out.on hb3)
    replace HB := hid (HB.out.on hb3)
    replace HP := hid (HP.out.on hb3)
    replace HQ := hid (HQ.out.on hb3)
    replace HBel := hid (Below.on HBel.out hb3)
    have HU := hid h3
    clear h3 hb3
    go_wp2_with fail
    refine (rmake_any _ _ _ _ _ _ _ _ 0 _ HA.out HB.out (by omega)).mono ?_
    rintro e w4 ⟨a4, c4, rfl, h4, hb4⟩
    replace HA := hid (HA.out.on hb4)
    replace HB := hid (HB.out.on hb4)
    replace HP := hid (HP.out.on hb4)
    replace HQ := hid (HQ.out.on hb4)
    replace HU := hid (HU.out.on hb4)
    replace HBel := hid (Below.on HBel.out hb4)
    have HUr := hid h4
    clear h4 hb4
    go_wp2_with fail
    refine (same_reg HU.out HUr.out rfl).mono ?_
    rintro e w5 ⟨rfl, hb5⟩
    replace HA := hid (HA.out.on hb5)
    replace HB := hid (HB.out.on hb5)
    replace HP := hid (HP.out.on hb5)
    replace HQ := hid (HQ.out.on hb5)
    replace HU := hid (HU.out.on hb5)
    replace HUr := hid (HUr.out.on hb5)
    replace HBel := hid (Below.on HBel.out hb5)
    clear hb5
    clear HU HUr
    go_wp2_with fail
    refine (subtract_any _ _ _ _ _ _ _ _ _ HP.out HQ.out (by omega)).mono ?_
    rintro e w6 ⟨a6, c6, rfl, h6, hb6⟩
    replace HA := hid (HA.out.on hb6)
    replace HB := hid (HB.out.on hb6)
    replace HP := hid (HP.out.on hb6)
    replace HQ := hid (HQ.out.on hb6)
    replace HBel := hid (Below.on HBel.out hb6)
    have HS := hid h6
    clear h6 hb6
    go_wp2_with fail
    refine (rmake_any _ _ _ _ _ _ _ _ 1 _ HA.out HB.out (by omega)).mono ?_
    rintro e w7 ⟨a7, c7, rfl, h7, hb7⟩
    replace HA := hid (HA.out.on hb7)
    replace HB := hid (HB.out.on hb7)
    replace HP := hid (HP.out.on hb7)
    replace HQ := hid (HQ.out.on hb7)
    replace HS := hid (HS.out.on hb7)
    replace HBel := hid (Below.on HBel.out hb7)
    have HSr := hid h7
    clear h7 hb7
    go_wp2_with fail
    refine (same_reg HS.out HSr.out rfl).mono ?_
    rintro e w8 ⟨rfl, hb8⟩
    replace HA := hid (HA.out.on hb8)
    replace HB := hid (HB.out.on hb8)
    replace HP := hid (HP.out.on hb8)
    replace HQ := hid (HQ.out.on hb8)
    replace HS := hid (HS.out.on hb8)
    replace HSr := hid (HSr.out.on hb8)
    replace HBel := hid (Below.on HBel.out hb8)
    clear hb8
    clear HS HSr
    go_wp2_with fail
    refine (intersect_any _ _ _ _ _ _ _ _ _ HP.out HQ.out (by omega)).mono ?_
    rintro e w9 ⟨a9, c9, rfl, h9, hb9⟩
    replace HA := hid (HA.out.on hb9)
    replace HB := hid (HB.out.on hb9)
    replace HP := hid (HP.out.on hb9)
    replace HQ := hid (HQ.out.on hb9)
    replace HBel := hid (Below.on HBel.out hb9)
    have HC := hid h9
    clear h9 hb9
    go_wp2_with fail
    refine (rmake_any _ _ _ _ _ _ _ _ 2 _ HA.out HB.out (by omega)).mono ?_
    rintro e w10 ⟨a10, c10, rfl, h10, hb10⟩
    replace HA := hid (HA.out.on hb10)
    replace HB := hid (HB.out.on hb10)
    replace HP := hid (HP.out.on hb10)
    replace HQ := hid (HQ.out.on hb10)
    replace HC := hid (HC.out.on hb10)
    replace HBel := hid (Below.on HBel.out hb10)
    have HCr := hid h10
    clear h10 hb10
    go_wp2_with fail
    refine (same_reg HC.out HCr.out rfl).mono ?_
    rintro e w11 ⟨rfl, hb11⟩
    replace HA := hid (HA.out.on hb11)
    replace HB := hid (HB.out.on hb11)
    replace HP := hid (HP.out.on hb11)
    replace HQ := hid (HQ.out.on hb11)
    replace HC := hid (HC.out.on hb11)
    replace HCr := hid (HCr.out.on hb11)
    replace HBel := hid (Below.on HBel.out hb11)
    clear hb11
    clear HC HCr
    go_wp2_with fail
    refine (shiftreg_any _ _ _ _ x y _ HP.out (by omega)).mono ?_
    rintro e w12 ⟨a12, c12, rfl, h12, hb12⟩
    replace HA := hid (HA.out.on hb12)
    replace HB := hid (HB.out.on hb12)
    replace HP := hid (HP.out.on hb12)
    replace HQ := hid (HQ.out.on hb12)
    replace HBel := hid (Below.on HBel.out hb12)
    have HM := hid h12
    clear h12 hb12
    go_wp2_with fail
    refine (rshiftreg_any _ _ _ _ x y hx hy _ HA.out (by omega)).mono ?_
    rintro e w13 ⟨a13, c13, rfl, h13, hb13⟩
    replace HA := hid (HA.out.on hb13)
    replace HB := hid (HB.out.on hb13)
    replace HP := hid (HP.out.on hb13)
    replace HQ := hid (HQ.out.on hb13)
    replace HM := hid (HM.out.on hb13)
    replace HBel := hid (Below.on HBel.out hb13)
    have HN := hid h13
    clear h13 hb13
    go_wp2_with fail
    refine (same_reg HM.out HN.out rfl).mono ?_
    rintro e w14 ⟨rfl, hb14⟩
    replace HA := hid (HA.out.on hb14)
    replace HB := hid (HB.out.on hb14)
    replace HP := hid (HP.out.on hb14)
    replace HQ := hid (HQ.out.on hb14)
    replace HM := hid (HM.out.on hb14)
    replace HN := hid (HN.out.on hb14)
    replace HBel := hid (Below.on HBel.out hb14)
    clear hb14
    clear HM HN
    go_wp2_with fail
    refine (rcoverall_any _ _ _ _ _ HP.out).mono ?_
    rintro e z1 ⟨s1, hs1, rfl, hbz⟩
    replace hs1 := hid hs1
    replace HA := hid (HA.out.on hbz)
    replace HB := hid (HB.out.on hbz)
    replace HP := hid (HP.out.on hbz)
    replace HQ := hid (HQ.out.on hbz)
    replace HBel := hid (Below.on HBel.out hbz)
    clear hbz
    go_wp2_with fail
    refine (rcovers_any _ _ _ _ _ HA.out (by omega)).mono ?_
    rintro e z2 ⟨s2, hs2, rfl, hbz⟩
    replace hs2 := hid hs2
    replace HA := hid (HA.out.on hbz)
    replace HB := hid (HB.out.on hbz)
    replace HP := hid (HP.out.on hbz)
    replace HQ := hid (HQ.out.on hbz)
    replace HBel := hid (Below.on HBel.out hbz)
    clear hbz
    obtain rfl : s1 = s2 := hs1.out.trans hs2.out.symm
    clear hs1 hs2
    have r1 := eqlR s1 s1
    rw [rceq_same] at r1
    go_wp2_with fail
    refine (DA.out _ _ _ HP.out).mono ?_
    rintro e w15 ⟨rfl, hb15⟩
    replace HA := hid (HA.out.on hb15)
    replace HB := hid (HB.out.on hb15)
    replace HP := hid (HP.out.on hb15)
    replace HQ := hid (HQ.out.on hb15)
    replace HBel := hid (Below.on HBel.out hb15)
    clear hb15
    go_wp2_with fail
    refine (DR.out _ _ _ HA.out).mono ?_
    rintro e w16 ⟨rfl, hb16⟩
    replace HA := hid (HA.out.on hb16)
    replace HB := hid (HB.out.on hb16)
    replace HP := hid (HP.out.on hb16)
    replace HQ := hid (HQ.out.on hb16)
    replace HBel := hid (Below.on HBel.out hb16)
    clear hb16
    go_wp2_with fail
    refine (DH.out _ _ _ HP.out).mono ?_
    rintro e w17 ⟨rfl, hb17⟩
    replace HA := hid (HA.out.on hb17)
    replace HB := hid (HB.out.on hb17)
    replace HP := hid (HP.out.on hb17)
    replace HQ := hid (HQ.out.on hb17)
    replace HBel := hid (Below.on HBel.out hb17)
    clear hb17
    go_wp2_with fail
    refine (CR.out _ _ _ HA.out).mono ?_
    rintro e w18 ⟨rfl, hb18⟩
    replace HA := hid (HA.out.on hb18)
    replace HB := hid (HB.out.on hb18)
    replace HP := hid (HP.out.on hb18)
    replace HQ := hid (HQ.out.on hb18)
    replace HBel := hid (Below.on HBel.out hb18)
    clear hb18
    go_wp2_with fail
    refine (DP.out _ _ _ HA.out).mono ?_
    rintro e w19 ⟨rfl, hb19⟩
    replace HA := hid (HA.out.on hb19)
    replace HB := hid (HB.out.on hb19)
    replace HP := hid (HP.out.on hb19)
    replace HQ := hid (HQ.out.on hb19)
    replace HBel := hid (Below.on HBel.out hb19)
    clear hb19
    go_wp2_with fail
    refine (same_reg HP.out HA.out rfl).mono ?_
    rintro e w20 ⟨rfl, hb20⟩
    replace HA := hid (HA.out.on hb20)
    replace HB := hid (HB.out.on hb20)
    replace HP := hid (HP.out.on hb20)
    replace HQ := hid (HQ.out.on hb20)
    replace HBel := hid (Below.on HBel.out hb20)
    clear hb20
    go_wp2_with fail
    refine (awake_any _).mono ?_
    rintro e w21 ⟨rfl, hb21⟩
    replace HA := hid (HA.out.on hb21)
    replace HB := hid (HB.out.on hb21)
    replace HP := hid (HP.out.on hb21)
    replace HQ := hid (HQ.out.on hb21)
    replace HBel := hid (Below.on HBel.out hb21)
    clear hb21
    go_wp2
    go_ret
    exact ⟨rfl, HBel.out⟩

theorem walk (a0 : Option Addr) (n0 c0 : Nat) (l0 : List (List Int)) (a1 : Option Addr) (n1 c1 : Nat) (l1 : List (List Int)) (x0 y0 z0 u0 x y : Int) (w : World) (r0 : RdN 4 w a0 n0 c0 l0) (r1 : RdN 4 w a1 n1 c1 l1) (h0 : ∀ k ∈ [x0, y0, z0, u0], (Lit.int .i64 k).wf = true) (hx : (Lit.int .i64 x).wf = true) (hy : (Lit.int .i64 y).wf = true) :
    Calls Try.prog 3 #[.slice a0 n0 c0, .slice a1 n1 c1, .agg #[.int .i64 x0, .int .i64 y0, .int .i64 z0, .int .i64 u0], .int .i64 x, .int .i64 y] w fun e w' => e = .returned (.bool true) ∧ Below w.heap.size w w' := by
  have g0 := rdc_of_rdn r0
  have g1 := rdc_of_rdn r1
  obtain ⟨A, hA⟩ : ∃ A, A = (List.range n0).map (rcOf l0) := ⟨_, rfl⟩
  obtain ⟨B, hB⟩ : ∃ B, B = (List.range n1).map (rcOf l1) := ⟨_, rfl⟩
  rw [← hA] at g0
  rw [← hB] at g1
  obtain rfl : A.length = n0 := g0.len
  obtain rfl : B.length = n1 := g1.len
  exact core a0 c0 A a1 c1 B ⟨x0, y0, z0, u0⟩ (ok4 h0) x y (range64 hx) (range64 hy) w g0 g1
end Go.Proofs.Ytgogpckjlfgdcaa.regionAll
