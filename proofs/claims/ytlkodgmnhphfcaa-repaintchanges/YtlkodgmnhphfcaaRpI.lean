/- Repaint: the contracts of the document's spot and Changed. Laid by repaint/lay.sh. -/
import Derived.Test.YtlkodgmnhphfcaaRpC
import Derived.Test.YtlkodgmnhphfcaaRpD
import Derived.Test.YtlkodgmnhphfcaaDmgC
namespace Go.Proofs.Ytlkodgmnhphfcaa
open Go Go.RowKit

set_option maxRecDepth 100000 in
set_option maxHeartbeats 4000000 in
theorem qrspot_any (z0 z1 z2 z3 z4 z5 : Int) (r : Rc) (ok : r.Ok) (w : World) :
    Calls Try.prog 20 #[.agg #[.int .i64 z0, .int .i64 z1, .int .i64 z2, .int .i64 z3, .int .i64 z4, .int .i64 z5], .agg #[.int .i64 r.x, .int .i64 r.y, .int .i64 r.w, .int .i64 r.h]] w fun e w' => e = .returned (.agg #[.int .i64 (spt [z0, z1, z2, z3, z4, z5] r).x, .int .i64 (spt [z0, z1, z2, z3, z4, z5] r).y, .int .i64 (spt [z0, z1, z2, z3, z4, z5] r).w, .int .i64 (spt [z0, z1, z2, z3, z4, z5] r).h]) ∧ Below w.heap.size w w' := by
  have hA := bel_new w (.cells #[.int .i64 z0, .int .i64 z1, .int .i64 z2, .int .i64 z3, .int .i64 z4, .int .i64 z5] 40)
  have hV := bk_new w #[.int .i64 z0, .int .i64 z1, .int .i64 z2, .int .i64 z3, .int .i64 z4, .int .i64 z5] 40
  have CB := hid (fun u => rbound_any r ok u)
  have CK := hid (fun u => rcheck_any ⟨z2, z3, z4, z5⟩ u)
  have CE := hid (fun u => rempty_any (bnd r) u)
  cases hk : dck ⟨z2, z3, z4, z5⟩ with
  | false =>
    rw [hk] at CK
    rw [show spt [z0, z1, z2, z3, z4, z5] r = rz from spt_no (.inl hk)]
    generalize bnd r = B at CB
    clear hk CE ok
    go_enter Try.func20, Try.ntmps20
    go_wp2_with fail
    refine (CB.out _).mono ?_
    rintro e w1 ⟨rfl, hb1⟩
    obtain ⟨hr1, hz1, hbb⟩ := box2 r rz hb1
    have hV1 := hV.on hbb
    have hX := bx_new w1 B
    have hl0 : w.heap.size < w1.heap.size := hV1.lt
    rw [size_new] at hr1 hz1
    have HV2 := hid (hV1.on (below_new w1 (ob B)))
    have HZ2 := hid (hz1.on (below_new w1 (ob B)))
    have HB2 := hid (Below.on (Below.on hA hbb) (below_new w1 (ob B)))
    clear hb1 hr1 hz1 hbb hV1 hV hA CB
    rw [ob] at HV2 HZ2 HB2
    have v0 := HV2.out.cell 0
    have v1 := HV2.out.cell 1
    have v2 := HV2.out.cell 2
    have v3 := HV2.out.cell 3
    have v4 := HV2.out.cell 4
    have v5 := HV2.out.cell 5
    go_wp2_with fail
    refine (qrrect_any z0 z1 z2 z3 z4 z5 _).mono ?_
    rintro e w2 ⟨rfl, hb2⟩
    have HZ3 := hid (HZ2.out.on hb2)
    have HB3 := hid (Below.on HB2.out hb2)
    clear hb2 HV2 HZ2 HB2 hX v0 v1 v2 v3 v4 v5
    go_wp2_with fail
    refine (CK.out _).mono ?_
    rintro e w3 ⟨rfl, hb3⟩
    have HZ4 := hid (HZ3.out.on hb3)
    have HB4 := hid (Below.on HB3.out hb3)
    clear hb3 HZ3 HB3
    obtain ⟨d0, d1, d2, d3⟩ := HZ4.out.all
    have fz := HZ4.out.fz
    go_wp2
    refine bodyPost_ret (results_cell_row rfl _ _ (w.heap.size + 1 + 1) _ _ _ _ rfl (HZ4.out.st rz).obj Try.underlying36 rfl infoR) rfl ?_
    exact ⟨rfl, below_st HB4.out (by omega) rz⟩
  | true =>
    rw [hk] at CK
    have k : Ck (vrc [z0, z1, z2, z3, z4, z5]) := dck_iff.1 hk
    cases hb : emp (bnd r) with
    | true =>
      rw [hb] at CE
      rw [show spt [z0, z1, z2, z3, z4, z5] r = rz from spt_no (.inr hb)]
      generalize bnd r = B at CB CE
      clear hk hb k ok
      go_enter Try.func20, Try.ntmps20
      go_wp2_with fail
      refine (CB.out _).mono ?_
      rintro e w1 ⟨rfl, hb1⟩
      obtain ⟨hr1, hz1, hbb⟩ := box2 r rz hb1
      have hV1 := hV.on hbb
      have hX := bx_new w1 B
      have hl0 : w.heap.size < w1.heap.size := hV1.lt
      rw [size_new] at hr1 hz1
      have HV2 := hid (hV1.on (below_new w1 (ob B)))
      have HZ2 := hid (hz1.on (below_new w1 (ob B)))
      have HB2 := hid (Below.on (Below.on hA hbb) (below_new w1 (ob B)))
      have HX2 := hid hX
      clear hb1 hr1 hz1 hbb hV1 hV hA CB hX
      rw [ob] at HV2 HZ2 HB2
      have v0 := HV2.out.cell 0
      have v1 := HV2.out.cell 1
      have v2 := HV2.out.cell 2
      have v3 := HV2.out.cell 3
      have v4 := HV2.out.cell 4
      have v5 := HV2.out.cell 5
      go_wp2_with fail
      refine (qrrect_any z0 z1 z2 z3 z4 z5 _).mono ?_
      rintro e w2 ⟨rfl, hb2⟩
      have HZ3 := hid (HZ2.out.on hb2)
      have HX3 := hid (HX2.out.on hb2)
      have HB3 := hid (Below.on HB2.out hb2)
      clear hb2 HV2 HZ2 HB2 HX2 v0 v1 v2 v3 v4 v5
      go_wp2_with fail
      refine (CK.out _).mono ?_
      rintro e w3 ⟨rfl, hb3⟩
      have HZ4 := hid (HZ3.out.on hb3)
      have HX4 := hid (HX3.out.on hb3)
      have HB4 := hid (Below.on HB3.out hb3)
      clear hb3 HZ3 HB3 HX3
      obtain ⟨c0, c1, c2, c3⟩ := HX4.out.all
      go_wp2_with fail
      refine (CE.out _).mono ?_
      rintro e w4 ⟨rfl, hb4⟩
      have HZ5 := hid (HZ4.out.on hb4)
      have HB5 := hid (Below.on HB4.out hb4)
      clear hb4 HZ4 HB4 HX4 c0 c1 c2 c3
      obtain ⟨d0, d1, d2, d3⟩ := HZ5.out.all
      have fz := HZ5.out.fz
      go_wp2
      refine bodyPost_ret (results_cell_row rfl _ _ (w.heap.size + 1 + 1) _ _ _ _ rfl (HZ5.out.st rz).obj Try.underlying36 rfl infoR) rfl ?_
      exact ⟨rfl, below_st HB5.out (by omega) rz⟩
    | false =>
      rw [hb] at CE
      rw [spt_full k hb]
      have kb : Ck (bnd r) := by
        rcases bnd_cases r with h | h
        · rw [hb] at h; cases h
        · exact h
      rw [show nm5 2 [z0, z1, z2, z3, z4, z5] = z2 from rfl, show nm5 3 [z0, z1, z2, z3, z4, z5] = z3 from rfl]
      rw [show vrc [z0, z1, z2, z3, z4, z5] = ⟨z2, z3, z4, z5⟩ from rfl] at k ⊢
      generalize bnd r = B at CB CE hb kb ⊢
      have CS := hid (fun u => rshift_any B z2 z3 (fun _ => by
        obtain ⟨k1, k2, k3, k4, k5, k6⟩ := k
        obtain ⟨l1, l2, l3, l4, l5, l6⟩ := kb
        dsimp only at k1 k2 k3 k4 k5 k6
        omega) (fun _ => by
        obtain ⟨k1, k2, k3, k4, k5, k6⟩ := k
        obtain ⟨l1, l2, l3, l4, l5, l6⟩ := kb
        dsimp only at k1 k2 k3 k4 k5 k6
        omega) u)
      have hcw : emp (sh B z2 z3) = false → Cw (sh B z2 z3) := fun _ => by
        rw [sh_full hb]
        obtain ⟨k1, k2, k3, k4, k5, k6⟩ := k
        obtain ⟨l1, l2, l3, l4, l5, l6⟩ := kb
        dsimp only at k1 k2 k3 k4 k5 k6
        exact ⟨by dsimp only; omega, by dsimp only; omega, by dsimp only; omega, by dsimp only; omega, by dsimp only; omega, by dsimp only; omega⟩
      have CC := hid (fun u => rcutw_any (sh B z2 z3) ⟨z2, z3, z4, z5⟩ hcw (fun _ => k.cw) u)
      generalize sh B z2 z3 = Q at CS CC ⊢
      generalize cut Q ⟨z2, z3, z4, z5⟩ = R at CC ⊢
      clear hk hb k kb hcw ok
      go_enter Try.func20, Try.ntmps20
      go_wp2_with fail
      refine (CB.out _).mono ?_
      rintro e w1 ⟨rfl, hb1⟩
      obtain ⟨hr1, hz1, hbb⟩ := box2 r rz hb1
      have hV1 := hV.on hbb
      have hX := bx_new w1 B
      have hl0 : w.heap.size < w1.heap.size := hV1.lt
      have hl1 : w.heap.size + 1 + 1 < w1.heap.size := by have := hz1.lt; rw [size_new] at this; exact this
      rw [size_new] at hr1 hz1
      have HV2 := hid (hV1.on (below_new w1 (ob B)))
      have HZ2 := hid (hz1.on (below_new w1 (ob B)))
      have HB2 := hid (Below.on (Below.on hA hbb) (below_new w1 (ob B)))
      have HX2 := hid hX
      clear hb1 hr1 hz1 hbb hV1 hV hA CB hX
      rw [ob] at HV2 HZ2 HB2
      have v0 := HV2.out.cell 0
      have v1 := HV2.out.cell 1
      have v2 := HV2.out.cell 2
      have v3 := HV2.out.cell 3
      have v4 := HV2.out.cell 4
      have v5 := HV2.out.cell 5
      go_wp2_with fail
      refine (qrrect_any z0 z1 z2 z3 z4 z5 _).mono ?_
      rintro e w2 ⟨rfl, hb2⟩
      have HV3 := hid (HV2.out.on hb2)
      have HZ3 := hid (HZ2.out.on hb2)
      have HX3 := hid (HX2.out.on hb2)
      have HB3 := hid (Below.on HB2.out hb2)
      clear hb2 HV2 HZ2 HB2 HX2 v0 v1 v2 v3 v4 v5
      go_wp2_with fail
      refine (CK.out _).mono ?_
      rintro e w3 ⟨rfl, hb3⟩
      have HV4 := hid (HV3.out.on hb3)
      have HZ4 := hid (HZ3.out.on hb3)
      have HX4 := hid (HX3.out.on hb3)
      have HB4 := hid (Below.on HB3.out hb3)
      clear hb3 HV3 HZ3 HB3 HX3
      obtain ⟨c0, c1, c2, c3⟩ := HX4.out.all
      go_wp2_with fail
      refine (CE.out _).mono ?_
      rintro e U ⟨rfl, hb4⟩
      have HV5 := hid (HV4.out.on hb4)
      have HZ5 := hid (HZ4.out.on hb4)
      have HX5 := hid (HX4.out.on hb4)
      have HB5 := hid (Below.on HB4.out hb4)
      clear hb4 HV4 HZ4 HB4 HX4 c0 c1 c2 c3
      go_upto_region 4 with fail
      refine wp_region_held_drew (S := fun x => Bk x w.heap.size 40 #[.int .i64 z0, .int .i64 z1, .int .i64 z2, .int .i64 z3, .int .i64 z4, .int .i64 z5] ∧ Bx x w1.heap.size B) (by kernel_rfl) ?hh (fun hHeld => ?_)
      case hh => exact (⟨HV5.out.on (Below.refl _ _).drew, HX5.out.drew⟩)
      refine wpAnyH_take (i := 0) (v := ?_) rfl (by kernel_rfl) (by kernel_rfl) (by kernel_rfl) (fun _ _ _ h => h) (Or.inl ⟨by kernel_rfl, ?hy0⟩) (by assumption) ?_
      case hy0 => (intro w hSw; (try dsimp only at hSw); have t0 := hSw.1.cell 0; have t1 := hSw.1.cell 1; have t2 := hSw.1.cell 2; have t3 := hSw.1.cell 3; have t4 := hSw.1.cell 4; have t5 := hSw.1.cell 5; obtain ⟨s0, s1, s2, s3⟩ := hSw.2.all; go_simp; try with_reducible rfl)
      try simp only [Act.put, List.getElem_toArray, List.getElem_cons_zero, List.setIfInBounds_toArray, List.set_cons_zero, List.set_cons_succ]
      refine wpAnyH_take (i := 1) (v := ?_) rfl (by kernel_rfl) (by kernel_rfl) (by kernel_rfl) (fun _ _ _ h => h) (Or.inl ⟨by kernel_rfl, ?hy1⟩) (by assumption) ?_
      case hy1 => (intro w hSw; (try dsimp only at hSw); have t0 := hSw.1.cell 0; have t1 := hSw.1.cell 1; have t2 := hSw.1.cell 2; have t3 := hSw.1.cell 3; have t4 := hSw.1.cell 4; have t5 := hSw.1.cell 5; obtain ⟨s0, s1, s2, s3⟩ := hSw.2.all; go_simp; try with_reducible rfl)
      try simp only [Act.put, List.getElem_toArray, List.getElem_cons_zero, List.getElem_cons_succ, List.setIfInBounds_toArray, List.set_cons_zero, List.set_cons_succ]
      refine wpAnyH_take (i := 2) (v := ?_) rfl (by kernel_rfl) (by kernel_rfl) (by kernel_rfl) (fun _ _ _ h => h) (Or.inl ⟨by kernel_rfl, ?hy2⟩) (by assumption) ?_
      case hy2 => (intro w hSw; (try dsimp only at hSw); have t0 := hSw.1.cell 0; have t1 := hSw.1.cell 1; have t2 := hSw.1.cell 2; have t3 := hSw.1.cell 3; have t4 := hSw.1.cell 4; have t5 := hSw.1.cell 5; obtain ⟨s0, s1, s2, s3⟩ := hSw.2.all; go_simp; try with_reducible rfl)
      try simp only [Act.put, List.getElem_toArray, List.getElem_cons_zero, List.getElem_cons_succ, List.setIfInBounds_toArray, List.set_cons_zero, List.set_cons_succ]
      refine wpAnyH_take (i := 3) (v := ?_) rfl (by kernel_rfl) (by kernel_rfl) (by kernel_rfl) (fun _ _ _ h => h) (Or.inl ⟨by kernel_rfl, ?hy3⟩) (by assumption) ?_
      case hy3 => (intro w hSw; (try dsimp only at hSw); have t0 := hSw.1.cell 0; have t1 := hSw.1.cell 1; have t2 := hSw.1.cell 2; have t3 := hSw.1.cell 3; have t4 := hSw.1.cell 4; have t5 := hSw.1.cell 5; obtain ⟨s0, s1, s2, s3⟩ := hSw.2.all; go_simp; try with_reducible rfl)
      try simp only [Act.put, List.getElem_toArray, List.getElem_cons_zero, List.getElem_cons_succ, List.setIfInBounds_toArray, List.set_cons_zero, List.set_cons_succ]
      refine wpAnyH_take (i := 4) (v := ?_) rfl (by kernel_rfl) (by kernel_rfl) (by kernel_rfl) (fun _ _ _ h => h) (Or.inl ⟨by kernel_rfl, ?hy4⟩) (by assumption) ?_
      case hy4 => (intro w hSw; (try dsimp only at hSw); have t0 := hSw.1.cell 0; have t1 := hSw.1.cell 1; have t2 := hSw.1.cell 2; have t3 := hSw.1.cell 3; have t4 := hSw.1.cell 4; have t5 := hSw.1.cell 5; obtain ⟨s0, s1, s2, s3⟩ := hSw.2.all; go_simp; try with_reducible rfl)
      try simp only [Act.put, List.getElem_toArray, List.getElem_cons_zero, List.getElem_cons_succ, List.setIfInBounds_toArray, List.set_cons_zero, List.set_cons_succ]
      refine wpAnyH_take (i := 6) (v := ?_) rfl (by kernel_rfl) (by kernel_rfl) (by kernel_rfl) (fun _ _ _ h => h) (Or.inl ⟨by kernel_rfl, ?hy6⟩) (by assumption) ?_
      case hy6 => (intro w hSw; (try dsimp only at hSw); have t0 := hSw.1.cell 0; have t1 := hSw.1.cell 1; have t2 := hSw.1.cell 2; have t3 := hSw.1.cell 3; have t4 := hSw.1.cell 4; have t5 := hSw.1.cell 5; obtain ⟨s0, s1, s2, s3⟩ := hSw.2.all; go_simp; try with_reducible rfl)
      try simp only [Act.put, List.getElem_toArray, List.getElem_cons_zero, List.getElem_cons_succ, List.setIfInBounds_toArray, List.set_cons_zero, List.set_cons_succ]
      refine wpAnyH_ready (rs := [5]) (by kernel_rfl) (by simp) ?_
      refine AllReadyH.cons rfl (fun K hK => ?_) AllReadyH.nil
      go_simp
      go_wp2_with fail
      refine (CS.out _).mono ?_
      rintro e u1 ⟨rfl, hb5⟩
      have HZ6 := hid (HZ5.out.drew.on hb5)
      have HB6 := hid (Below.on HB5.out.drew hb5)
      have hH := (⟨hHeld.1.on hb5, hHeld.2.on hb5⟩ : Bk u1 w.heap.size 40 #[.int .i64 z0, .int .i64 z1, .int .i64 z2, .int .i64 z3, .int .i64 z4, .int .i64 z5] ∧ Bx u1 w1.heap.size B)
      refine hK.out _ _ hH (fun _ => ?_)
      clear hK K hHeld hb5 HZ5 HB5 HV5 HX5
      have hHeld := hH
      clear hH
      refine wpAnyH_ready (rs := [7]) (by kernel_rfl) (by simp) ?_
      refine AllReadyH.cons rfl (fun K hK => ?_) AllReadyH.nil
      go_simp
      go_wp2_with fail
      refine (qrrect_any z0 z1 z2 z3 z4 z5 _).mono ?_
      rintro e u2 ⟨rfl, hb6⟩
      have HZ7 := hid (HZ6.out.on hb6)
      have HB7 := hid (Below.on HB6.out hb6)
      have hH := (⟨hHeld.1.on hb6, hHeld.2.on hb6⟩ : Bk u2 w.heap.size 40 #[.int .i64 z0, .int .i64 z1, .int .i64 z2, .int .i64 z3, .int .i64 z4, .int .i64 z5] ∧ Bx u2 w1.heap.size B)
      refine hK.out _ _ hH (fun _ => ?_)
      clear hK K hHeld hb6 HZ6 HB6
      have hHeld := hH
      clear hH
      refine wpAnyH_ready (rs := [8]) (by kernel_rfl) (by simp) ?_
      refine AllReadyH.cons rfl (fun K hK => ?_) AllReadyH.nil
      go_simp
      go_wp2_with fail
      refine (CC.out _).mono ?_
      rintro e u3 ⟨rfl, hb7⟩
      have HZ8 := hid (HZ7.out.on hb7)
      have HB8 := hid (Below.on HB7.out hb7)
      have hH := (⟨hHeld.1.on hb7, hHeld.2.on hb7⟩ : Bk u3 w.heap.size 40 #[.int .i64 z0, .int .i64 z1, .int .i64 z2, .int .i64 z3, .int .i64 z4, .int .i64 z5] ∧ Bx u3 w1.heap.size B)
      refine hK.out _ _ hH (fun _ => ?_)
      clear hK K hHeld hb7 HZ7 HB7
      have hHeld := hH
      clear hH
      refine wpAnyH_ready (rs := [9]) (by kernel_rfl) (by simp) ?_
      refine AllReadyH.cons rfl (fun K hK => ?_) AllReadyH.nil
      obtain ⟨d0, d1, d2, d3⟩ := HZ8.out.all
      have fz := HZ8.out.fz
      go_simp
      have hk9 : Kp [w.heap.size + 1 + 1] u3 (st4 u3 (w.heap.size + 1 + 1) R) := (((((Kp.refl [w.heap.size + 1 + 1] u3).set ⟨w.heap.size + 1 + 1, 0, none⟩ (by simp) (.int .i64 R.x)).set ⟨w.heap.size + 1 + 1, 1, none⟩ (by simp) (.int .i64 R.y)).set ⟨w.heap.size + 1 + 1, 2, none⟩ (by simp) (.int .i64 R.w)).set ⟨w.heap.size + 1 + 1, 3, none⟩ (by simp) (.int .i64 R.h))
      refine hK.out _ _ (⟨hHeld.1.kp hk9 (by simp only [List.mem_singleton]; omega), ⟨hk9.var hHeld.2.obj (by simp only [List.mem_singleton]; omega)⟩⟩ : Bk (st4 u3 (w.heap.size + 1 + 1) R) w.heap.size 40 #[.int .i64 z0, .int .i64 z1, .int .i64 z2, .int .i64 z3, .int .i64 z4, .int .i64 z5] ∧ Bx (st4 u3 (w.heap.size + 1 + 1) R) w1.heap.size B) (fun _ => ?_)
      clear hK K hHeld hk9
      refine wpAnyH_done (by kernel_rfl) ?_ _
      go_wp2
      refine bodyPost_ret (results_cell_row rfl _ _ (w.heap.size + 1 + 1) _ _ _ _ rfl (HZ8.out.st R).obj Try.underlying36 rfl infoR) rfl ?_
      exact ⟨rfl, below_st HB8.out (by omega) R⟩
end Go.Proofs.Ytlkodgmnhphfcaa
