/- The document's own Bound; may, awake; the program's Check is the document's. -/
import Derived.Test.YtlkodgmnhphfcaaRectG
namespace Go.Proofs.Ytlkodgmnhphfcaa
open Go Go.RowKit

theorem bnd_full {a : Rc} (he : emp a = false) : bnd a = oft (max a.x (-16777216)) (max a.y (-16777216)) (ed a.x a.w) (ed a.y a.h) := by
  rw [bnd, cut_full he (by decide)]
  have h1 : en fld.x fld.w = 16777216 := by decide
  have h2 : en fld.y fld.h = 16777216 := by decide
  have h3 : ∀ p s : Int, min (en p s) 16777216 = ed p s := fun p s => by
    unfold en ed
    split <;> split <;> omega
  rw [h1, h2, h3, h3]
  rfl

theorem bnd_emp {a : Rc} (he : emp a = true) : bnd a = rz := cut_emp1 he _

theorem chk_dck {a : Rc} (ok : a.Ok) : chk a = dck a := by
  apply Bool.eq_iff_iff.2
  rw [dck_iff, chk, Bool.and_eq_true, Bool.not_eq_true', rceq_iff]
  obtain ⟨⟨o1, o2⟩, ⟨o3, o4⟩, ⟨o5, o6⟩, o7, o8⟩ := ok
  constructor
  · rintro ⟨he, hq⟩
    obtain ⟨z1, z2⟩ := sizes he
    rw [bnd_full he] at hq
    by_cases h1 : ed a.x a.w ≤ max a.x (-16777216)
    · rw [oft_left h1] at hq
      rw [← hq] at z1
      exact absurd z1 (by decide)
    · by_cases h2 : ed a.y a.h ≤ max a.y (-16777216)
      · rw [oft_top h2] at hq
        rw [← hq] at z1
        exact absurd z1 (by decide)
      · rw [oft_full h1 h2] at hq
        have e1 := congrArg Rc.x hq
        have e2 := congrArg Rc.y hq
        have e3 := congrArg Rc.w hq
        have e4 := congrArg Rc.h hq
        simp only [ed] at e1 e2 e3 e4
        refine ⟨z1, z2, by omega, by omega, ?_, ?_⟩
        · split at e3 <;> omega
        · split at e4 <;> omega
  · intro k
    refine ⟨k.emp, ?_⟩
    rw [bnd_full k.emp]
    obtain ⟨k1, k2, k3, k4, k5, k6⟩ := k
    have e1 : ed a.x a.w = a.x + a.w := by rw [ed, if_pos k5]
    have e2 : ed a.y a.h = a.y + a.h := by rw [ed, if_pos k6]
    rw [e1, e2, oft_full (by omega) (by omega)]
    have e3 : max a.x (-16777216) = a.x := by omega
    have e4 : max a.y (-16777216) = a.y := by omega
    rw [e3, e4]
    have e5 : a.x + a.w - a.x = a.w := by omega
    have e6 : a.y + a.h - a.y = a.h := by omega
    rw [e5, e6]

set_option maxRecDepth 100000 in
set_option maxHeartbeats 1000000 in
theorem rbound_any (a : Rc) (ok : a.Ok) (w : World) : Calls Try.prog 31 #[.agg #[.int .i64 a.x, .int .i64 a.y, .int .i64 a.w, .int .i64 a.h]] w fun e w' => e = .returned (.agg #[.int .i64 (bnd a).x, .int .i64 (bnd a).y, .int .i64 (bnd a).w, .int .i64 (bnd a).h]) ∧ Below w.heap.size w w' := by
  have CE := hid (fun w => rempty_any a w)
  cases he : emp a
  · rw [he] at CE
    obtain ⟨z1, z2⟩ := sizes he
    rw [bnd_full he]
    have C1 := hid (fun w => edge_any a.x a.w ok.x ⟨z1, ok.w.2⟩ w)
    have C2 := hid (fun w => edge_any a.y a.h ok.y ⟨z2, ok.h.2⟩ w)
    have le : ∀ p s : Int, ed p s ≤ 16777216 := fun p s => by unfold ed; split <;> omega
    have l1 := le a.x a.w
    have l2 := le a.y a.h
    have CO := hid (fun w => rof_any (max a.x (-16777216)) (max a.y (-16777216)) (ed a.x a.w) (ed a.y a.h) (by omega) (by omega) w)
    clear l1 l2 le z1 z2 ok he
    go_enter Try.func31, Try.ntmps31
    go_wp2_with fail
    refine (CE.out _).mono ?_
    rintro e w1 ⟨rfl, hb1⟩
    obtain ⟨hA, hR, hw⟩ := box2 a rz hb1
    have HA := hid hA
    have HR := hid hR
    have HW := hid hw
    clear hA hR hw hb1 CE
    go_upto_region 3 with fail
    have hB := HA.out.drew
    have hR := HR.out.drew
    have hW := HW.out.drew
    refine wp_region_held_drew (S := fun x => Bx x _ _) (by kernel_rfl) hB (fun hHeld => ?_)
    have hHeld := hB
    refine wpAnyH_take (i := 0) (v := ?_) rfl (by kernel_rfl) (by kernel_rfl) (by kernel_rfl) (fun _ _ _ h => h) (Or.inl ⟨by kernel_rfl, ?hy0⟩) (by assumption) ?_
    case hy0 => (intro w hSw; obtain ⟨t0, t1, t2, t3⟩ := hSw.all; go_simp; try with_reducible rfl)
    try simp only [Act.put, List.getElem_toArray, List.getElem_cons_zero, List.setIfInBounds_toArray, List.set_cons_zero, List.set_cons_succ]
    refine wpAnyH_take (i := 1) (v := ?_) rfl (by kernel_rfl) (by kernel_rfl) (by kernel_rfl) (fun _ _ _ h => h) (Or.inl ⟨by kernel_rfl, ?hy1⟩) (by assumption) ?_
    case hy1 => (intro w hSw; obtain ⟨t0, t1, t2, t3⟩ := hSw.all; go_simp; try with_reducible rfl)
    try simp only [Act.put, List.getElem_toArray, List.getElem_cons_zero, List.getElem_cons_succ, List.setIfInBounds_toArray, List.set_cons_zero, List.set_cons_succ]
    refine wpAnyH_take (i := 2) (v := ?_) rfl (by kernel_rfl) (by kernel_rfl) (by kernel_rfl) (fun _ _ _ h => h) (Or.inl ⟨by kernel_rfl, ?hy2⟩) (by assumption) ?_
    case hy2 => (intro w hSw; obtain ⟨t0, t1, t2, t3⟩ := hSw.all; go_simp; try with_reducible rfl)
    try simp only [Act.put, List.getElem_toArray, List.getElem_cons_zero, List.getElem_cons_succ, List.setIfInBounds_toArray, List.set_cons_zero, List.set_cons_succ]
    refine wpAnyH_take (i := 3) (v := ?_) rfl (by kernel_rfl) (by kernel_rfl) (by kernel_rfl) (fun _ _ _ h => h) (Or.inl ⟨by kernel_rfl, ?hy3⟩) (by assumption) ?_
    case hy3 => (intro w hSw; obtain ⟨t0, t1, t2, t3⟩ := hSw.all; go_simp; try with_reducible rfl)
    try simp only [Act.put, List.getElem_toArray, List.getElem_cons_zero, List.getElem_cons_succ, List.setIfInBounds_toArray, List.set_cons_zero, List.set_cons_succ]
    refine wpAnyH_take (i := 4) (v := ?_) rfl (by kernel_rfl) (by kernel_rfl) (by kernel_rfl) (fun _ _ _ h => h) (Or.inl ⟨by kernel_rfl, ?hy4⟩) (by assumption) ?_
    case hy4 => (intro w hSw; obtain ⟨t0, t1, t2, t3⟩ := hSw.all; go_simp; try with_reducible rfl)
    try simp only [Act.put, List.getElem_toArray, List.getElem_cons_zero, List.getElem_cons_succ, List.setIfInBounds_toArray, List.set_cons_zero, List.set_cons_succ]
    refine wpAnyH_take (i := 5) (v := ?_) rfl (by kernel_rfl) (by kernel_rfl) (by kernel_rfl) (fun _ _ _ h => h) (Or.inl ⟨by kernel_rfl, ?hy5⟩) (by assumption) ?_
    case hy5 => (intro w hSw; obtain ⟨t0, t1, t2, t3⟩ := hSw.all; go_simp; try with_reducible rfl)
    try simp only [Act.put, List.getElem_toArray, List.getElem_cons_zero, List.getElem_cons_succ, List.setIfInBounds_toArray, List.set_cons_zero, List.set_cons_succ]
    refine wpAnyH_take (i := 6) (v := ?_) rfl (by kernel_rfl) (by kernel_rfl) (by kernel_rfl) (fun _ _ _ h => h) (Or.inl ⟨by kernel_rfl, ?hy6⟩) (by assumption) ?_
    case hy6 => (intro w hSw; obtain ⟨t0, t1, t2, t3⟩ := hSw.all; go_simp; try with_reducible rfl)
    try simp only [Act.put, List.getElem_toArray, List.getElem_cons_zero, List.getElem_cons_succ, List.setIfInBounds_toArray, List.set_cons_zero, List.set_cons_succ]
    refine wpAnyH_take (i := 7) (v := ?_) rfl (by kernel_rfl) (by kernel_rfl) (by kernel_rfl) (fun _ _ _ h => h) (Or.inl ⟨by kernel_rfl, ?hy7⟩) (by assumption) ?_
    case hy7 => (intro w hSw; obtain ⟨t0, t1, t2, t3⟩ := hSw.all; go_simp; try with_reducible rfl)
    try simp only [Act.put, List.getElem_toArray, List.getElem_cons_zero, List.getElem_cons_succ, List.setIfInBounds_toArray, List.set_cons_zero, List.set_cons_succ]
    refine wpAnyH_take (i := 8) (v := ?_) rfl (by kernel_rfl) (by kernel_rfl) (by kernel_rfl) (fun _ _ _ h => h) (Or.inl ⟨by kernel_rfl, ?hy8⟩) (by assumption) ?_
    case hy8 => (intro w hSw; obtain ⟨t0, t1, t2, t3⟩ := hSw.all; go_simp; try with_reducible rfl)
    try simp only [Act.put, List.getElem_toArray, List.getElem_cons_zero, List.getElem_cons_succ, List.setIfInBounds_toArray, List.set_cons_zero, List.set_cons_succ]
    refine wpAnyH_take (i := 9) (v := ?_) rfl (by kernel_rfl) (by kernel_rfl) (by kernel_rfl) (fun _ _ _ h => h) (Or.inl ⟨by kernel_rfl, ?hy9⟩) (by assumption) ?_
    case hy9 => (intro w hSw; obtain ⟨t0, t1, t2, t3⟩ := hSw.all; go_simp; try with_reducible rfl)
    try simp only [Act.put, List.getElem_toArray, List.getElem_cons_zero, List.getElem_cons_succ, List.setIfInBounds_toArray, List.set_cons_zero, List.set_cons_succ]
    refine wpAnyH_take (i := 11) (v := ?_) rfl (by kernel_rfl) (by kernel_rfl) (by kernel_rfl) (fun _ _ _ h => h) (Or.inl ⟨by kernel_rfl, ?hy11⟩) (by assumption) ?_
    case hy11 => (intro w hSw; obtain ⟨t0, t1, t2, t3⟩ := hSw.all; go_simp; try with_reducible rfl)
    try simp only [Act.put, List.getElem_toArray, List.getElem_cons_zero, List.getElem_cons_succ, List.setIfInBounds_toArray, List.set_cons_zero, List.set_cons_succ]
    refine wpAnyH_take (i := 12) (v := ?_) rfl (by kernel_rfl) (by kernel_rfl) (by kernel_rfl) (fun _ _ _ h => h) (Or.inl ⟨by kernel_rfl, ?hy12⟩) (by assumption) ?_
    case hy12 => (intro w hSw; obtain ⟨t0, t1, t2, t3⟩ := hSw.all; go_simp; try with_reducible rfl)
    try simp only [Act.put, List.getElem_toArray, List.getElem_cons_zero, List.getElem_cons_succ, List.setIfInBounds_toArray, List.set_cons_zero, List.set_cons_succ]
    refine wpAnyH_take (i := 13) (v := ?_) rfl (by kernel_rfl) (by kernel_rfl) (by kernel_rfl) (fun _ _ _ h => h) (Or.inl ⟨by kernel_rfl, ?hy13⟩) (by assumption) ?_
    case hy13 => (intro w hSw; obtain ⟨t0, t1, t2, t3⟩ := hSw.all; go_simp; try with_reducible rfl)
    try simp only [Act.put, List.getElem_toArray, List.getElem_cons_zero, List.getElem_cons_succ, List.setIfInBounds_toArray, List.set_cons_zero, List.set_cons_succ]
    refine wpAnyH_take (i := 14) (v := ?_) rfl (by kernel_rfl) (by kernel_rfl) (by kernel_rfl) (fun _ _ _ h => h) (Or.inl ⟨by kernel_rfl, ?hy14⟩) (by assumption) ?_
    case hy14 => (intro w hSw; obtain ⟨t0, t1, t2, t3⟩ := hSw.all; go_simp; try with_reducible rfl)
    try simp only [Act.put, List.getElem_toArray, List.getElem_cons_zero, List.getElem_cons_succ, List.setIfInBounds_toArray, List.set_cons_zero, List.set_cons_succ]
    refine wpAnyH_ready (rs := [10]) (by kernel_rfl) (by simp) ?_
    refine AllReadyH.cons rfl (fun K hK => ?_) AllReadyH.nil
    go_simp
    go_wp2_with fail
    refine (C1.out _).mono ?_
    rintro e u210 ⟨rfl, rfl⟩
    refine hK.out _ _ hHeld (fun _ => ?_)
    clear hK K
    refine wpAnyH_ready (rs := [15]) (by kernel_rfl) (by simp) ?_
    refine AllReadyH.cons rfl (fun K hK => ?_) AllReadyH.nil
    go_simp
    go_wp2_with fail
    refine (C2.out _).mono ?_
    rintro e u215 ⟨rfl, rfl⟩
    refine hK.out _ _ hHeld (fun _ => ?_)
    clear hK K
    refine wpAnyH_ready (rs := [16]) (by kernel_rfl) (by simp) ?_
    refine AllReadyH.cons rfl (fun K hK => ?_) AllReadyH.nil
    go_simp
    go_wp2_with fail
    refine (CO.out _).mono ?_
    rintro e u216 ⟨rfl, hb⟩
    replace hHeld := hHeld.on hb
    replace hR := hR.on hb
    replace hW := Below.on hW hb
    refine hK.out _ _ hHeld (fun _ => ?_)
    clear hK K hb
    obtain ⟨d0, d1, d2, d3⟩ := hR.all
    have fz := hR.fz
    refine wpAnyH_ready (rs := [17]) (by kernel_rfl) (by simp) ?_
    refine AllReadyH.cons rfl (fun K hK => ?_) AllReadyH.nil
    go_simp
    refine hK.out _ _ (hHeld.st_other (by omega) _) (fun _ => ?_)
    clear hK K
    refine wpAnyH_done (by kernel_rfl) ?_ _
    go_wp2
    refine bodyPost_ret (results_cell_row rfl _ _ (w.heap.size + 1) _ _ _ _ rfl (hR.st (oft _ _ _ _)).obj Try.underlying36 rfl infoR) rfl ?_
    exact ⟨rfl, below_st hW (by omega) (oft _ _ _ _)⟩
  · rw [he] at CE
    rw [bnd_emp he]
    clear he ok
    go_enter Try.func31, Try.ntmps31
    go_wp2_with fail
    refine (CE.out _).mono ?_
    rintro e w1 ⟨rfl, hb1⟩
    obtain ⟨_, hR, hw⟩ := box2 a rz hb1
    have HR := hid hR
    have HW := hid hw
    obtain ⟨d0, d1, d2, d3⟩ := hR.all
    have fz := hR.fz
    clear hR hw hb1 CE
    go_wp2
    refine bodyPost_ret (results_cell_row rfl _ _ (w.heap.size + 1) _ _ _ _ rfl (HR.out.st rz).obj Try.underlying36 rfl infoR) rfl ?_
    exact ⟨rfl, below_st HW.out (by omega) rz⟩


end Go.Proofs.Ytlkodgmnhphfcaa
