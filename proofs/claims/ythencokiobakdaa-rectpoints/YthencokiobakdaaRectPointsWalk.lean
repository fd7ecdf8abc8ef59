/- RectPoints: for every two rectangles, every point and every way the call returns true; nothing that was there has turned. -/
import Derived.Test.YthencokiobakdaaRectM
namespace Go.Proofs.Ythencokiobakdaa.rectPoints
open Go Go.RowKit

set_option maxRecDepth 100000 in
set_option maxHeartbeats 4000000 in
theorem core (a b : Rc) (ha : a.Ok) (hb : b.Ok) (x y m n : Int) (hx : -9223372036854775808 ≤ x ∧ x ≤ 9223372036854775807) (hy : -9223372036854775808 ≤ y ∧ y ≤ 9223372036854775807) (h3 : -9223372036854775808 ≤ m ∧ m ≤ 9223372036854775807) (h4 : -9223372036854775808 ≤ n ∧ n ≤ 9223372036854775807) (w : World) :
    Calls Try.prog 4 #[.agg #[.int .i64 a.x, .int .i64 a.y, .int .i64 a.w, .int .i64 a.h], .agg #[.int .i64 b.x, .int .i64 b.y, .int .i64 b.w, .int .i64 b.h], .int .i64 x, .int .i64 y, .int .i64 m, .int .i64 n] w fun e w' => e = .returned (.bool true) ∧ Below w.heap.size w w' := by
  have CM := hid (fun w => may_any a w)
  have CN := hid (fun w => may_any b w)
  cases hm : may a
  · rw [hm] at CM
    clear ha hb
    go_enter Try.func4, Try.ntmps4
    go_wp2_with fail
    refine (CM.out _).mono ?_
    rintro e w1 ⟨rfl, hb1⟩
    obtain ⟨hA, hB, hw⟩ := box2 a b hb1
    clear hA hB hb1
    go_wp2_with fail
    refine (awake_any _).mono ?_
    rintro e w2 ⟨rfl, hb2⟩
    go_wp2
    go_ret
    exact ⟨rfl, Below.on hw hb2⟩
  · rw [hm] at CM
    cases hn : may b
    · rw [hn] at CN
      clear ha hb
      go_enter Try.func4, Try.ntmps4
      go_wp2_with fail
      refine (CM.out _).mono ?_
      rintro e w1 ⟨rfl, hb1⟩
      obtain ⟨hA, hB, hw⟩ := box2 a b hb1
      obtain ⟨c10, c11, c12, c13⟩ := hB.all
      clear hA hB hb1
      go_wp2_with fail
      refine (CN.out _).mono ?_
      rintro e w2 ⟨rfl, hb2⟩
      go_wp2_with fail
      refine (awake_any _).mono ?_
      rintro e w3 ⟨rfl, hb3⟩
      go_wp2
      go_ret
      exact ⟨rfl, Below.on (Below.on hw hb2) hb3⟩
    · rw [hn] at CN
      have P1 := fun w => place_any x 67108864 hx (by omega) (by omega) w
      have P2 := fun w => place_any y 67108864 hy (by omega) (by omega) w
      have P3 := fun w => place_any m 16777216 h3 (by omega) (by omega) w
      have P4 := fun w => place_any n 16777216 h4 (by omega) (by omega) w
      have l1 := plc_lt x 67108864 (by omega)
      have l2 := plc_lt y 67108864 (by omega)
      have l3 := plc_lt m 16777216 (by omega)
      have l4 := plc_lt n 16777216 (by omega)
      generalize plc x 67108864 = p at P1 l1
      generalize plc y 67108864 = q at P2 l2
      generalize plc m 16777216 = u at P3 l3
      generalize plc n 16777216 = v at P4 l4
      have H1 := hid P1
      have H2 := hid P2
      have H3 := hid P3
      have H4 := hid P4
      have HI := hid (fun w => has_any a ha ((p : Int) - 33554432) ((q : Int) - 33554432) (by omega) (by omega) w)
      have HJ := hid (fun w => has_any b hb ((p : Int) - 33554432) ((q : Int) - 33554432) (by omega) (by omega) w)
      have HV := hid (fun w => cover_any a b ha hb (fun he hf => cvr_ok (may_ck hm he) (may_ck hn hf)) w)
      have G1 := hid (fun w => cut_any a b ha hb w)
      have E2 := fun w => has_any (cut a b) (cut_ok hm hn) ((p : Int) - 33554432) ((q : Int) - 33554432) (by omega) (by omega) w
      rw [has_cut hm hn] at E2
      have sx : emp a = false → -9223372036854775808 ≤ a.x + (u : Int) ∧ a.x + (u : Int) ≤ 9223372036854775807 := fun he => by
        obtain ⟨k1, k2, k3, k4, k5, k6⟩ := may_ck hm he
        omega
      have sy : emp a = false → -9223372036854775808 ≤ a.y + (v : Int) ∧ a.y + (v : Int) ≤ 9223372036854775807 := fun he => by
        obtain ⟨k1, k2, k3, k4, k5, k6⟩ := may_ck hm he
        omega
      have G4 := hid (fun w => shift_any a u v sx sy w)
      have E5 := fun w => has_any (sh a u v) (sh_ok hm l3 l4) ((p : Int) - 33554432 + u) ((q : Int) - 33554432 + v) (by omega) (by omega) w
      rw [has_sh] at E5
      have G6 := hid (fun w => bound_any a ha w)
      have E7 := fun w => has_any (bnd a) (bnd_ok ha hm) ((p : Int) - 33554432) ((q : Int) - 33554432) (by omega) (by omega) w
      rw [has_bnd hm] at E7
      clear P1 P2 P3 P4 sx sy hx hy h3 h4
      go_enter Try.func4, Try.ntmps4
      go_wp2_with fail
      refine (CM.out _).mono ?_
      rintro e w1 ⟨rfl, hb1⟩
      obtain ⟨hA, hB, hw⟩ := box2 a b hb1
      obtain ⟨c10, c11, c12, c13⟩ := hB.all
      clear hb1
      go_wp2_with fail
      refine (CN.out _).mono ?_
      rintro e w2 ⟨rfl, hb2⟩
      have HA := hid (hA.on hb2)
      have HB := hid (hB.on hb2)
      have HW := hid (Below.on hw hb2)
      clear c10 c11 c12 c13 hA hB hw hb2 CM CN
      go_wp2_with fail
      refine (H1.out _).mono ?_
      rintro e w3 ⟨rfl, rfl⟩
      go_wp2_with fail
      refine (H2.out _).mono ?_
      rintro e w4 ⟨rfl, rfl⟩
      go_wp2_with fail
      refine (H3.out _).mono ?_
      rintro e w5 ⟨rfl, rfl⟩
      go_wp2_with fail
      refine (H4.out _).mono ?_
      rintro e w6 ⟨rfl, rfl⟩
      clear H1 H2 H3 H4
      go_upto_region 5 with fail
      refine wp_region_held_drew (S := fun x => Below w6.heap.size w6 x) (by kernel_rfl) (Below.refl _ _).drew (fun hHeld => ?_)
      have hHeld : Below w6.heap.size w6 w6.drew := hHeld
      refine wpAnyH_take (i := 0) (v := ?_) rfl (by kernel_rfl) (by kernel_rfl) (by kernel_rfl) (fun _ _ _ h => h) (Or.inl ⟨by kernel_rfl, ?hy0⟩) (by assumption) ?_
      case hy0 => (intro w hSw; (try dsimp only at hSw); obtain ⟨t00, t01, t02, t03⟩ := (HA.out.on hSw).all; obtain ⟨t10, t11, t12, t13⟩ := (HB.out.on hSw).all; go_simp; try with_reducible rfl)
      try simp only [Act.put, List.getElem_toArray, List.getElem_cons_zero, List.setIfInBounds_toArray, List.set_cons_zero, List.set_cons_succ]
      refine wpAnyH_take (i := 1) (v := ?_) rfl (by kernel_rfl) (by kernel_rfl) (by kernel_rfl) (fun _ _ _ h => h) (Or.inl ⟨by kernel_rfl, ?hy1⟩) (by assumption) ?_
      case hy1 => (intro w hSw; (try dsimp only at hSw); obtain ⟨t00, t01, t02, t03⟩ := (HA.out.on hSw).all; obtain ⟨t10, t11, t12, t13⟩ := (HB.out.on hSw).all; go_simp; try with_reducible rfl)
      try simp only [Act.put, List.getElem_toArray, List.getElem_cons_zero, List.getElem_cons_succ, List.setIfInBounds_toArray, List.set_cons_zero, List.set_cons_succ]
      refine wpAnyH_take (i := 2) (v := ?_) rfl (by kernel_rfl) (by kernel_rfl) (by kernel_rfl) (fun _ _ _ h => h) (Or.inl ⟨by kernel_rfl, ?hy2⟩) (by assumption) ?_
      case hy2 => (intro w hSw; (try dsimp only at hSw); obtain ⟨t00, t01, t02, t03⟩ := (HA.out.on hSw).all; obtain ⟨t10, t11, t12, t13⟩ := (HB.out.on hSw).all; go_simp; try with_reducible rfl)
      try simp only [Act.put, List.getElem_toArray, List.getElem_cons_zero, List.getElem_cons_succ, List.setIfInBounds_toArray, List.set_cons_zero, List.set_cons_succ]
      refine wpAnyH_take (i := 4) (v := ?_) rfl (by kernel_rfl) (by kernel_rfl) (by kernel_rfl) (fun _ _ _ h => h) (Or.inl ⟨by kernel_rfl, ?hy4⟩) (by assumption) ?_
      case hy4 => (intro w hSw; (try dsimp only at hSw); obtain ⟨t00, t01, t02, t03⟩ := (HA.out.on hSw).all; obtain ⟨t10, t11, t12, t13⟩ := (HB.out.on hSw).all; go_simp; try with_reducible rfl)
      try simp only [Act.put, List.getElem_toArray, List.getElem_cons_zero, List.getElem_cons_succ, List.setIfInBounds_toArray, List.set_cons_zero, List.set_cons_succ]
      refine wpAnyH_take (i := 5) (v := ?_) rfl (by kernel_rfl) (by kernel_rfl) (by kernel_rfl) (fun _ _ _ h => h) (Or.inl ⟨by kernel_rfl, ?hy5⟩) (by assumption) ?_
      case hy5 => (intro w hSw; (try dsimp only at hSw); obtain ⟨t00, t01, t02, t03⟩ := (HA.out.on hSw).all; obtain ⟨t10, t11, t12, t13⟩ := (HB.out.on hSw).all; go_simp; try with_reducible rfl)
      try simp only [Act.put, List.getElem_toArray, List.getElem_cons_zero, List.getElem_cons_succ, List.setIfInBounds_toArray, List.set_cons_zero, List.set_cons_succ]
      refine wpAnyH_take (i := 6) (v := ?_) rfl (by kernel_rfl) (by kernel_rfl) (by kernel_rfl) (fun _ _ _ h => h) (Or.inl ⟨by kernel_rfl, ?hy6⟩) (by assumption) ?_
      case hy6 => (intro w hSw; (try dsimp only at hSw); obtain ⟨t00, t01, t02, t03⟩ := (HA.out.on hSw).all; obtain ⟨t10, t11, t12, t13⟩ := (HB.out.on hSw).all; go_simp; try with_reducible rfl)
      try simp only [Act.put, List.getElem_toArray, List.getElem_cons_zero, List.getElem_cons_succ, List.setIfInBounds_toArray, List.set_cons_zero, List.set_cons_succ]
      refine wpAnyH_ready (rs := [3]) (by kernel_rfl) (by simp) ?_
      refine AllReadyH.cons rfl (fun K hK => ?_) AllReadyH.nil
      go_simp
      go_wp2_with fail
      refine (HI.out _).mono ?_
      rintro e u203 ⟨rfl, hb⟩
      replace hHeld := Below.on hHeld hb
      refine hK.out _ _ hHeld (fun _ => ?_)
      clear hK K hb
      refine wpAnyH_ready (rs := [7]) (by kernel_rfl) (by simp) ?_
      refine AllReadyH.cons rfl (fun K hK => ?_) AllReadyH.nil
      go_simp
      go_wp2_with fail
      refine (HJ.out _).mono ?_
      rintro e u207 ⟨rfl, hb⟩
      replace hHeld := Below.on hHeld hb
      refine hK.out _ _ hHeld (fun _ => ?_)
      clear hK K hb
      refine wpAnyH_take (i := 8) (v := ?_) rfl (by kernel_rfl) (by kernel_rfl) (by kernel_rfl) (fun _ _ _ h => h) (Or.inl ⟨by kernel_rfl, ?hy8⟩) (by assumption) ?_
      case hy8 => (intro w hSw; (try dsimp only at hSw); obtain ⟨t00, t01, t02, t03⟩ := (HA.out.on hSw).all; obtain ⟨t10, t11, t12, t13⟩ := (HB.out.on hSw).all; go_simp; try with_reducible rfl)
      try simp only [Act.put, List.getElem_toArray, List.getElem_cons_zero, List.getElem_cons_succ, List.setIfInBounds_toArray, List.set_cons_zero, List.set_cons_succ]
      refine wpAnyH_take (i := 9) (v := ?_) rfl (by kernel_rfl) (by kernel_rfl) (by kernel_rfl) (fun _ _ _ h => h) (Or.inl ⟨by kernel_rfl, ?hy9⟩) (by assumption) ?_
      case hy9 => (intro w hSw; (try dsimp only at hSw); obtain ⟨t00, t01, t02, t03⟩ := (HA.out.on hSw).all; obtain ⟨t10, t11, t12, t13⟩ := (HB.out.on hSw).all; go_simp; try with_reducible rfl)
      try simp only [Act.put, List.getElem_toArray, List.getElem_cons_zero, List.getElem_cons_succ, List.setIfInBounds_toArray, List.set_cons_zero, List.set_cons_succ]
      refine wpAnyH_done (by kernel_rfl) ?_ _
      have hA := HA.out.on hHeld
      have hB := HB.out.on hHeld
      have hw := Below.on HW.out hHeld
      clear HA HB HW HI HJ hHeld
      obtain ⟨c00, c01, c02, c03⟩ := hA.all
      obtain ⟨c10, c11, c12, c13⟩ := hB.all
      go_wp2_with fail
      refine (HV.out _).mono ?_
      rintro e v6 ⟨rfl, hb⟩
      replace hw := Below.on hw hb
      replace hA := hA.on hb
      replace hB := hB.on hb
      clear c00 c01 c02 c03 c10 c11 c12 c13
      obtain ⟨c00, c01, c02, c03⟩ := hA.all
      obtain ⟨c10, c11, c12, c13⟩ := hB.all
      clear hb
      clear c00 c01 c02 c03 c10 c11 c12 c13 HV
      have hC := bx_new v6 (cov a b)
      replace hA := hA.on (below_new v6 (.cells #[.int .i64 (cov a b).x, .int .i64 (cov a b).y, .int .i64 (cov a b).w, .int .i64 (cov a b).h] 23))
      replace hB := hB.on (below_new v6 (.cells #[.int .i64 (cov a b).x, .int .i64 (cov a b).y, .int .i64 (cov a b).w, .int .i64 (cov a b).h] 23))
      replace hw := Below.on hw (below_new v6 (.cells #[.int .i64 (cov a b).x, .int .i64 (cov a b).y, .int .i64 (cov a b).w, .int .i64 (cov a b).h] 23))
      obtain ⟨c00, c01, c02, c03⟩ := hA.all
      obtain ⟨c10, c11, c12, c13⟩ := hB.all
      obtain ⟨c20, c21, c22, c23⟩ := hC.all
      cases h1 : has a ((p : Int) - 33554432) ((q : Int) - 33554432)
      · cases h2 : has b ((p : Int) - 33554432) ((q : Int) - 33554432)
        · rw [h1, h2] at E2
          have G2 := hid E2
          rw [h1] at E5 E7
          have G5 := hid E5
          have G7 := hid E7
          clear E2 E5 E7 h1 h2 hm hn ha hb
          go_wp2_with fail
          refine (G1.out _).mono ?_
          rintro e v7 ⟨rfl, hb⟩
          replace hw := Below.on hw hb
          replace hA := hA.on hb
          replace hB := hB.on hb
          replace hC := hC.on hb
          clear c00 c01 c02 c03 c10 c11 c12 c13 c20 c21 c22 c23
          obtain ⟨c00, c01, c02, c03⟩ := hA.all
          obtain ⟨c10, c11, c12, c13⟩ := hB.all
          obtain ⟨c20, c21, c22, c23⟩ := hC.all
          clear hb
          go_wp2_with fail
          refine (G2.out _).mono ?_
          rintro e v8 ⟨rfl, hb⟩
          replace hw := Below.on hw hb
          replace hA := hA.on hb
          replace hB := hB.on hb
          replace hC := hC.on hb
          clear c00 c01 c02 c03 c10 c11 c12 c13 c20 c21 c22 c23
          obtain ⟨c00, c01, c02, c03⟩ := hA.all
          obtain ⟨c10, c11, c12, c13⟩ := hB.all
          obtain ⟨c20, c21, c22, c23⟩ := hC.all
          clear hb
          go_wp2_with fail
          refine (G4.out _).mono ?_
          rintro e v10 ⟨rfl, hb⟩
          replace hw := Below.on hw hb
          replace hA := hA.on hb
          replace hB := hB.on hb
          replace hC := hC.on hb
          clear c00 c01 c02 c03 c10 c11 c12 c13 c20 c21 c22 c23
          obtain ⟨c00, c01, c02, c03⟩ := hA.all
          obtain ⟨c10, c11, c12, c13⟩ := hB.all
          obtain ⟨c20, c21, c22, c23⟩ := hC.all
          clear hb
          go_wp2_with fail
          refine (G5.out _).mono ?_
          rintro e v11 ⟨rfl, hb⟩
          replace hw := Below.on hw hb
          replace hA := hA.on hb
          replace hB := hB.on hb
          replace hC := hC.on hb
          clear c00 c01 c02 c03 c10 c11 c12 c13 c20 c21 c22 c23
          obtain ⟨c00, c01, c02, c03⟩ := hA.all
          obtain ⟨c10, c11, c12, c13⟩ := hB.all
          obtain ⟨c20, c21, c22, c23⟩ := hC.all
          clear hb
          go_wp2_with fail
          refine (G6.out _).mono ?_
          rintro e v12 ⟨rfl, hb⟩
          replace hw := Below.on hw hb
          replace hA := hA.on hb
          replace hB := hB.on hb
          replace hC := hC.on hb
          clear c00 c01 c02 c03 c10 c11 c12 c13 c20 c21 c22 c23
          obtain ⟨c00, c01, c02, c03⟩ := hA.all
          obtain ⟨c10, c11, c12, c13⟩ := hB.all
          obtain ⟨c20, c21, c22, c23⟩ := hC.all
          clear hb
          go_wp2_with fail
          refine (G7.out _).mono ?_
          rintro e v13 ⟨rfl, hb⟩
          replace hw := Below.on hw hb
          replace hA := hA.on hb
          replace hB := hB.on hb
          replace hC := hC.on hb
          clear c00 c01 c02 c03 c10 c11 c12 c13 c20 c21 c22 c23
          obtain ⟨c00, c01, c02, c03⟩ := hA.all
          obtain ⟨c10, c11, c12, c13⟩ := hB.all
          obtain ⟨c20, c21, c22, c23⟩ := hC.all
          clear hb
          go_wp2_with fail
          refine (awake_any _).mono ?_
          rintro e v14 ⟨rfl, hb⟩
          replace hw := Below.on hw hb
          replace hA := hA.on hb
          replace hB := hB.on hb
          replace hC := hC.on hb
          clear c00 c01 c02 c03 c10 c11 c12 c13 c20 c21 c22 c23
          obtain ⟨c00, c01, c02, c03⟩ := hA.all
          obtain ⟨c10, c11, c12, c13⟩ := hB.all
          obtain ⟨c20, c21, c22, c23⟩ := hC.all
          clear hb
          go_wp2
          go_ret
          exact ⟨rfl, hw⟩
        · rw [h1, h2] at E2
          have G2 := hid E2
          have E3 := fun w => has_any (cov a b) (cov_ok hm hn) ((p : Int) - 33554432) ((q : Int) - 33554432) (by omega) (by omega) w
          rw [has_cov hm hn (.inr h2)] at E3
          have G3 := hid E3
          clear E3
          rw [h1] at E5 E7
          have G5 := hid E5
          have G7 := hid E7
          clear E2 E5 E7 h1 h2 hm hn ha hb
          go_wp2_with fail
          refine (G1.out _).mono ?_
          rintro e v7 ⟨rfl, hb⟩
          replace hw := Below.on hw hb
          replace hA := hA.on hb
          replace hB := hB.on hb
          replace hC := hC.on hb
          clear c00 c01 c02 c03 c10 c11 c12 c13 c20 c21 c22 c23
          obtain ⟨c00, c01, c02, c03⟩ := hA.all
          obtain ⟨c10, c11, c12, c13⟩ := hB.all
          obtain ⟨c20, c21, c22, c23⟩ := hC.all
          clear hb
          go_wp2_with fail
          refine (G2.out _).mono ?_
          rintro e v8 ⟨rfl, hb⟩
          replace hw := Below.on hw hb
          replace hA := hA.on hb
          replace hB := hB.on hb
          replace hC := hC.on hb
          clear c00 c01 c02 c03 c10 c11 c12 c13 c20 c21 c22 c23
          obtain ⟨c00, c01, c02, c03⟩ := hA.all
          obtain ⟨c10, c11, c12, c13⟩ := hB.all
          obtain ⟨c20, c21, c22, c23⟩ := hC.all
          clear hb
          go_wp2_with fail
          refine (G3.out _).mono ?_
          rintro e v9 ⟨rfl, hb⟩
          replace hw := Below.on hw hb
          replace hA := hA.on hb
          replace hB := hB.on hb
          replace hC := hC.on hb
          clear c00 c01 c02 c03 c10 c11 c12 c13 c20 c21 c22 c23
          obtain ⟨c00, c01, c02, c03⟩ := hA.all
          obtain ⟨c10, c11, c12, c13⟩ := hB.all
          obtain ⟨c20, c21, c22, c23⟩ := hC.all
          clear hb
          go_wp2_with fail
          refine (G4.out _).mono ?_
          rintro e v10 ⟨rfl, hb⟩
          replace hw := Below.on hw hb
          replace hA := hA.on hb
          replace hB := hB.on hb
          replace hC := hC.on hb
          clear c00 c01 c02 c03 c10 c11 c12 c13 c20 c21 c22 c23
          obtain ⟨c00, c01, c02, c03⟩ := hA.all
          obtain ⟨c10, c11, c12, c13⟩ := hB.all
          obtain ⟨c20, c21, c22, c23⟩ := hC.all
          clear hb
          go_wp2_with fail
          refine (G5.out _).mono ?_
          rintro e v11 ⟨rfl, hb⟩
          replace hw := Below.on hw hb
          replace hA := hA.on hb
          replace hB := hB.on hb
          replace hC := hC.on hb
          clear c00 c01 c02 c03 c10 c11 c12 c13 c20 c21 c22 c23
          obtain ⟨c00, c01, c02, c03⟩ := hA.all
          obtain ⟨c10, c11, c12, c13⟩ := hB.all
          obtain ⟨c20, c21, c22, c23⟩ := hC.all
          clear hb
          go_wp2_with fail
          refine (G6.out _).mono ?_
          rintro e v12 ⟨rfl, hb⟩
          replace hw := Below.on hw hb
          replace hA := hA.on hb
          replace hB := hB.on hb
          replace hC := hC.on hb
          clear c00 c01 c02 c03 c10 c11 c12 c13 c20 c21 c22 c23
          obtain ⟨c00, c01, c02, c03⟩ := hA.all
          obtain ⟨c10, c11, c12, c13⟩ := hB.all
          obtain ⟨c20, c21, c22, c23⟩ := hC.all
          clear hb
          go_wp2_with fail
          refine (G7.out _).mono ?_
          rintro e v13 ⟨rfl, hb⟩
          replace hw := Below.on hw hb
          replace hA := hA.on hb
          replace hB := hB.on hb
          replace hC := hC.on hb
          clear c00 c01 c02 c03 c10 c11 c12 c13 c20 c21 c22 c23
          obtain ⟨c00, c01, c02, c03⟩ := hA.all
          obtain ⟨c10, c11, c12, c13⟩ := hB.all
          obtain ⟨c20, c21, c22, c23⟩ := hC.all
          clear hb
          go_wp2_with fail
          refine (awake_any _).mono ?_
          rintro e v14 ⟨rfl, hb⟩
          replace hw := Below.on hw hb
          replace hA := hA.on hb
          replace hB := hB.on hb
          replace hC := hC.on hb
          clear c00 c01 c02 c03 c10 c11 c12 c13 c20 c21 c22 c23
          obtain ⟨c00, c01, c02, c03⟩ := hA.all
          obtain ⟨c10, c11, c12, c13⟩ := hB.all
          obtain ⟨c20, c21, c22, c23⟩ := hC.all
          clear hb
          go_wp2
          go_ret
          exact ⟨rfl, hw⟩
      · cases h2 : has b ((p : Int) - 33554432) ((q : Int) - 33554432)
        · rw [h1, h2] at E2
          have G2 := hid E2
          have E3 := fun w => has_any (cov a b) (cov_ok hm hn) ((p : Int) - 33554432) ((q : Int) - 33554432) (by omega) (by omega) w
          rw [has_cov hm hn (.inl h1)] at E3
          have G3 := hid E3
          clear E3
          rw [h1] at E5 E7
          have G5 := hid E5
          have G7 := hid E7
          obtain ⟨i1, i2, i3, i4⟩ := has_in hm h1
          have e1 : decide ((-16777216 : Int) ≤ (p : Int) - 33554432) = true := decide_eq_true i1
          have e2 : decide ((p : Int) - 33554432 < 16777216) = true := decide_eq_true i2
          have e3 : decide ((-16777216 : Int) ≤ (q : Int) - 33554432) = true := decide_eq_true i3
          have e4 : decide ((q : Int) - 33554432 < 16777216) = true := decide_eq_true i4
          clear i1 i2 i3 i4
          clear E2 E5 E7 h1 h2 hm hn ha hb
          go_wp2_with fail
          refine (G1.out _).mono ?_
          rintro e v7 ⟨rfl, hb⟩
          replace hw := Below.on hw hb
          replace hA := hA.on hb
          replace hB := hB.on hb
          replace hC := hC.on hb
          clear c00 c01 c02 c03 c10 c11 c12 c13 c20 c21 c22 c23
          obtain ⟨c00, c01, c02, c03⟩ := hA.all
          obtain ⟨c10, c11, c12, c13⟩ := hB.all
          obtain ⟨c20, c21, c22, c23⟩ := hC.all
          clear hb
          go_wp2_with fail
          refine (G2.out _).mono ?_
          rintro e v8 ⟨rfl, hb⟩
          replace hw := Below.on hw hb
          replace hA := hA.on hb
          replace hB := hB.on hb
          replace hC := hC.on hb
          clear c00 c01 c02 c03 c10 c11 c12 c13 c20 c21 c22 c23
          obtain ⟨c00, c01, c02, c03⟩ := hA.all
          obtain ⟨c10, c11, c12, c13⟩ := hB.all
          obtain ⟨c20, c21, c22, c23⟩ := hC.all
          clear hb
          go_wp2_with fail
          refine (G3.out _).mono ?_
          rintro e v9 ⟨rfl, hb⟩
          replace hw := Below.on hw hb
          replace hA := hA.on hb
          replace hB := hB.on hb
          replace hC := hC.on hb
          clear c00 c01 c02 c03 c10 c11 c12 c13 c20 c21 c22 c23
          obtain ⟨c00, c01, c02, c03⟩ := hA.all
          obtain ⟨c10, c11, c12, c13⟩ := hB.all
          obtain ⟨c20, c21, c22, c23⟩ := hC.all
          clear hb
          go_wp2_with fail
          refine (G4.out _).mono ?_
          rintro e v10 ⟨rfl, hb⟩
          replace hw := Below.on hw hb
          replace hA := hA.on hb
          replace hB := hB.on hb
          replace hC := hC.on hb
          clear c00 c01 c02 c03 c10 c11 c12 c13 c20 c21 c22 c23
          obtain ⟨c00, c01, c02, c03⟩ := hA.all
          obtain ⟨c10, c11, c12, c13⟩ := hB.all
          obtain ⟨c20, c21, c22, c23⟩ := hC.all
          clear hb
          go_wp2_with fail
          refine (G5.out _).mono ?_
          rintro e v11 ⟨rfl, hb⟩
          replace hw := Below.on hw hb
          replace hA := hA.on hb
          replace hB := hB.on hb
          replace hC := hC.on hb
          clear c00 c01 c02 c03 c10 c11 c12 c13 c20 c21 c22 c23
          obtain ⟨c00, c01, c02, c03⟩ := hA.all
          obtain ⟨c10, c11, c12, c13⟩ := hB.all
          obtain ⟨c20, c21, c22, c23⟩ := hC.all
          clear hb
          go_wp2_with fail
          refine (G6.out _).mono ?_
          rintro e v12 ⟨rfl, hb⟩
          replace hw := Below.on hw hb
          replace hA := hA.on hb
          replace hB := hB.on hb
          replace hC := hC.on hb
          clear c00 c01 c02 c03 c10 c11 c12 c13 c20 c21 c22 c23
          obtain ⟨c00, c01, c02, c03⟩ := hA.all
          obtain ⟨c10, c11, c12, c13⟩ := hB.all
          obtain ⟨c20, c21, c22, c23⟩ := hC.all
          clear hb
          go_wp2_with fail
          refine (G7.out _).mono ?_
          rintro e v13 ⟨rfl, hb⟩
          replace hw := Below.on hw hb
          replace hA := hA.on hb
          replace hB := hB.on hb
          replace hC := hC.on hb
          clear c00 c01 c02 c03 c10 c11 c12 c13 c20 c21 c22 c23
          obtain ⟨c00, c01, c02, c03⟩ := hA.all
          obtain ⟨c10, c11, c12, c13⟩ := hB.all
          obtain ⟨c20, c21, c22, c23⟩ := hC.all
          clear hb
          go_wp2_with fail
          refine (awake_any _).mono ?_
          rintro e v14 ⟨rfl, hb⟩
          replace hw := Below.on hw hb
          replace hA := hA.on hb
          replace hB := hB.on hb
          replace hC := hC.on hb
          clear c00 c01 c02 c03 c10 c11 c12 c13 c20 c21 c22 c23
          obtain ⟨c00, c01, c02, c03⟩ := hA.all
          obtain ⟨c10, c11, c12, c13⟩ := hB.all
          obtain ⟨c20, c21, c22, c23⟩ := hC.all
          clear hb
          go_wp2
          go_ret
          exact ⟨rfl, hw⟩
        · rw [h1, h2] at E2
          have G2 := hid E2
          have E3 := fun w => has_any (cov a b) (cov_ok hm hn) ((p : Int) - 33554432) ((q : Int) - 33554432) (by omega) (by omega) w
          rw [has_cov hm hn (.inl h1)] at E3
          have G3 := hid E3
          clear E3
          rw [h1] at E5 E7
          have G5 := hid E5
          have G7 := hid E7
          obtain ⟨i1, i2, i3, i4⟩ := has_in hm h1
          have e1 : decide ((-16777216 : Int) ≤ (p : Int) - 33554432) = true := decide_eq_true i1
          have e2 : decide ((p : Int) - 33554432 < 16777216) = true := decide_eq_true i2
          have e3 : decide ((-16777216 : Int) ≤ (q : Int) - 33554432) = true := decide_eq_true i3
          have e4 : decide ((q : Int) - 33554432 < 16777216) = true := decide_eq_true i4
          clear i1 i2 i3 i4
          clear E2 E5 E7 h1 h2 hm hn ha hb
          go_wp2_with fail
          refine (G1.out _).mono ?_
          rintro e v7 ⟨rfl, hb⟩
          replace hw := Below.on hw hb
          replace hA := hA.on hb
          replace hB := hB.on hb
          replace hC := hC.on hb
          clear c00 c01 c02 c03 c10 c11 c12 c13 c20 c21 c22 c23
          obtain ⟨c00, c01, c02, c03⟩ := hA.all
          obtain ⟨c10, c11, c12, c13⟩ := hB.all
          obtain ⟨c20, c21, c22, c23⟩ := hC.all
          clear hb
          go_wp2_with fail
          refine (G2.out _).mono ?_
          rintro e v8 ⟨rfl, hb⟩
          replace hw := Below.on hw hb
          replace hA := hA.on hb
          replace hB := hB.on hb
          replace hC := hC.on hb
          clear c00 c01 c02 c03 c10 c11 c12 c13 c20 c21 c22 c23
          obtain ⟨c00, c01, c02, c03⟩ := hA.all
          obtain ⟨c10, c11, c12, c13⟩ := hB.all
          obtain ⟨c20, c21, c22, c23⟩ := hC.all
          clear hb
          go_wp2_with fail
          refine (G3.out _).mono ?_
          rintro e v9 ⟨rfl, hb⟩
          replace hw := Below.on hw hb
          replace hA := hA.on hb
          replace hB := hB.on hb
          replace hC := hC.on hb
          clear c00 c01 c02 c03 c10 c11 c12 c13 c20 c21 c22 c23
          obtain ⟨c00, c01, c02, c03⟩ := hA.all
          obtain ⟨c10, c11, c12, c13⟩ := hB.all
          obtain ⟨c20, c21, c22, c23⟩ := hC.all
          clear hb
          go_wp2_with fail
          refine (G4.out _).mono ?_
          rintro e v10 ⟨rfl, hb⟩
          replace hw := Below.on hw hb
          replace hA := hA.on hb
          replace hB := hB.on hb
          replace hC := hC.on hb
          clear c00 c01 c02 c03 c10 c11 c12 c13 c20 c21 c22 c23
          obtain ⟨c00, c01, c02, c03⟩ := hA.all
          obtain ⟨c10, c11, c12, c13⟩ := hB.all
          obtain ⟨c20, c21, c22, c23⟩ := hC.all
          clear hb
          go_wp2_with fail
          refine (G5.out _).mono ?_
          rintro e v11 ⟨rfl, hb⟩
          replace hw := Below.on hw hb
          replace hA := hA.on hb
          replace hB := hB.on hb
          replace hC := hC.on hb
          clear c00 c01 c02 c03 c10 c11 c12 c13 c20 c21 c22 c23
          obtain ⟨c00, c01, c02, c03⟩ := hA.all
          obtain ⟨c10, c11, c12, c13⟩ := hB.all
          obtain ⟨c20, c21, c22, c23⟩ := hC.all
          clear hb
          go_wp2_with fail
          refine (G6.out _).mono ?_
          rintro e v12 ⟨rfl, hb⟩
          replace hw := Below.on hw hb
          replace hA := hA.on hb
          replace hB := hB.on hb
          replace hC := hC.on hb
          clear c00 c01 c02 c03 c10 c11 c12 c13 c20 c21 c22 c23
          obtain ⟨c00, c01, c02, c03⟩ := hA.all
          obtain ⟨c10, c11, c12, c13⟩ := hB.all
          obtain ⟨c20, c21, c22, c23⟩ := hC.all
          clear hb
          go_wp2_with fail
          refine (G7.out _).mono ?_
          rintro e v13 ⟨rfl, hb⟩
          replace hw := Below.on hw hb
          replace hA := hA.on hb
          replace hB := hB.on hb
          replace hC := hC.on hb
          clear c00 c01 c02 c03 c10 c11 c12 c13 c20 c21 c22 c23
          obtain ⟨c00, c01, c02, c03⟩ := hA.all
          obtain ⟨c10, c11, c12, c13⟩ := hB.all
          obtain ⟨c20, c21, c22, c23⟩ := hC.all
          clear hb
          go_wp2_with fail
          refine (awake_any _).mono ?_
          rintro e v14 ⟨rfl, hb⟩
          replace hw := Below.on hw hb
          replace hA := hA.on hb
          replace hB := hB.on hb
          replace hC := hC.on hb
          clear c00 c01 c02 c03 c10 c11 c12 c13 c20 c21 c22 c23
          obtain ⟨c00, c01, c02, c03⟩ := hA.all
          obtain ⟨c10, c11, c12, c13⟩ := hB.all
          obtain ⟨c20, c21, c22, c23⟩ := hC.all
          clear hb
          go_wp2
          go_ret
          exact ⟨rfl, hw⟩

theorem walk (x0 y0 z0 u0 x1 y1 z1 u1 x y m n : Int) (w : World) (h0 : ∀ k ∈ [x0, y0, z0, u0], (Lit.int .i64 k).wf = true) (h1 : ∀ k ∈ [x1, y1, z1, u1], (Lit.int .i64 k).wf = true) (hx : (Lit.int .i64 x).wf = true) (hy : (Lit.int .i64 y).wf = true) (hm : (Lit.int .i64 m).wf = true) (hn : (Lit.int .i64 n).wf = true) :
    Calls Try.prog 4 #[.agg #[.int .i64 x0, .int .i64 y0, .int .i64 z0, .int .i64 u0], .agg #[.int .i64 x1, .int .i64 y1, .int .i64 z1, .int .i64 u1], .int .i64 x, .int .i64 y, .int .i64 m, .int .i64 n] w fun e w' => e = .returned (.bool true) ∧ Below w.heap.size w w' :=
  core ⟨x0, y0, z0, u0⟩ ⟨x1, y1, z1, u1⟩ (ok4 h0) (ok4 h1) x y m n (range64 hx) (range64 hy) (range64 hm) (range64 hn) w
end Go.Proofs.Ythencokiobakdaa.rectPoints
