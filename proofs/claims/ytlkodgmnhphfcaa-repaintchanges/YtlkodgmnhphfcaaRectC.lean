/- The contracts of the program's Cut and Bound. -/
import Derived.Test.YtlkodgmnhphfcaaRectB
namespace Go.Proofs.Ytlkodgmnhphfcaa
open Go Go.RowKit

theorem cut_emp1 {a : Rc} (h : emp a = true) (b : Rc) : cut a b = rz := by rw [cut, if_pos (Or.inl h)]
theorem cut_emp2 (a : Rc) {b : Rc} (h : emp b = true) : cut a b = rz := by rw [cut, if_pos (Or.inr h)]
theorem cut_full {a b : Rc} (h : emp a = false) (h' : emp b = false) : cut a b = oft (max a.x b.x) (max a.y b.y) (min (en a.x a.w) (en b.x b.w)) (min (en a.y a.h) (en b.y b.h)) := by
  rw [cut, if_neg (by rw [h, h']; decide)]

theorem oft_left {x0 y0 x1 y1 : Int} (h : x1 ≤ x0) : oft x0 y0 x1 y1 = rz := by rw [oft, if_pos (Or.inl h)]
theorem oft_top {x0 y0 x1 y1 : Int} (h : y1 ≤ y0) : oft x0 y0 x1 y1 = rz := by rw [oft, if_pos (Or.inr h)]
theorem oft_full {x0 y0 x1 y1 : Int} (h : ¬ x1 ≤ x0) (h' : ¬ y1 ≤ y0) : oft x0 y0 x1 y1 = ⟨x0, y0, x1 - x0, y1 - y0⟩ := by rw [oft, if_neg (by omega)]

/-- The way from the greater place to the lesser end is an int. -/
theorem way_int {p q s t : Int} (hs : 1 ≤ s ∧ s ≤ 9223372036854775807) (h : max p q < min (en p s) (en q t)) :
    -9223372036854775808 ≤ min (en p s) (en q t) - max p q ∧ min (en p s) (en q t) - max p q ≤ 9223372036854775807 := by
  have : en p s ≤ p + s := by unfold en; split <;> omega
  omega

set_option maxRecDepth 100000 in
set_option maxHeartbeats 1000000 in
theorem cut_any (a b : Rc) (ha : a.Ok) (hb : b.Ok) (w : World) : Calls Try.prog 42 #[.agg #[.int .i64 a.x, .int .i64 a.y, .int .i64 a.w, .int .i64 a.h], .agg #[.int .i64 b.x, .int .i64 b.y, .int .i64 b.w, .int .i64 b.h]] w fun e w' => e = .returned (.agg #[.int .i64 (cut a b).x, .int .i64 (cut a b).y, .int .i64 (cut a b).w, .int .i64 (cut a b).h]) ∧ Below w.heap.size w w' := by
  have CE := hid (fun w => empty_any a w)
  have CF := hid (fun w => empty_any b w)
  cases he : emp a
  · cases hf : emp b
    · rw [he] at CE
      rw [hf] at CF
      rw [cut_full he hf]
      obtain ⟨z1, z2⟩ := sizes he
      obtain ⟨z3, z4⟩ := sizes hf
      have C1 := hid (fun w => end_any a.x a.w ha.x ⟨z1, ha.w.2⟩ w)
      have C2 := hid (fun w => end_any b.x b.w hb.x ⟨z3, hb.w.2⟩ w)
      have C3 := hid (fun w => end_any a.y a.h ha.y ⟨z2, ha.h.2⟩ w)
      have C4 := hid (fun w => end_any b.y b.h hb.y ⟨z4, hb.h.2⟩ w)
      have W1 := hid (way_int (p := a.x) (q := b.x) ⟨z1, ha.w.2⟩ (t := b.w))
      have W2 := hid (way_int (p := a.y) (q := b.y) ⟨z2, ha.h.2⟩ (t := b.h))
      clear z1 z2 z3 z4 ha hb he hf
      go_enter Try.func42, Try.ntmps42
      go_wp2_with fail
      refine (CE.out _).mono ?_
      rintro e w1 ⟨rfl, hb1⟩
      obtain ⟨hA, hB, hR, hw⟩ := box3 a b rz hb1
      obtain ⟨c0, c1, c2, c3⟩ := hB.all
      clear hb1
      go_wp2_with fail
      refine (CF.out _).mono ?_
      rintro e w2 ⟨rfl, hb2⟩
      have HA := hid (hA.on hb2)
      have HB := hid (hB.on hb2)
      have HR := hid (hR.on hb2)
      have HW := hid (Below.on hw hb2)
      clear c0 c1 c2 c3 hA hB hR hw hb2 CE CF
      go_upto_region 3 with fail
      refine wp_region_held_drew (S := fun x => Below w2.heap.size w2 x) (by kernel_rfl) (Below.refl _ _).drew (fun hHeld => ?_)
      have hHeld : Below w2.heap.size w2 w2.drew := hHeld
      refine wpAnyH_take (i := 0) (v := ?_) rfl (by kernel_rfl) (by kernel_rfl) (by kernel_rfl) (fun _ _ _ h => h) (Or.inl ⟨by kernel_rfl, ?hy0⟩) (by assumption) ?_
      case hy0 => (intro w hSw; (try dsimp only at hSw); obtain ⟨t00, t01, t02, t03⟩ := (HA.out.on hSw).all; obtain ⟨t10, t11, t12, t13⟩ := (HB.out.on hSw).all; go_simp; try with_reducible rfl)
      try simp only [Act.put, List.getElem_toArray, List.getElem_cons_zero, List.setIfInBounds_toArray, List.set_cons_zero, List.set_cons_succ]
      refine wpAnyH_take (i := 1) (v := ?_) rfl (by kernel_rfl) (by kernel_rfl) (by kernel_rfl) (fun _ _ _ h => h) (Or.inl ⟨by kernel_rfl, ?hy1⟩) (by assumption) ?_
      case hy1 => (intro w hSw; (try dsimp only at hSw); obtain ⟨t00, t01, t02, t03⟩ := (HA.out.on hSw).all; obtain ⟨t10, t11, t12, t13⟩ := (HB.out.on hSw).all; go_simp; try with_reducible rfl)
      try simp only [Act.put, List.getElem_toArray, List.getElem_cons_zero, List.getElem_cons_succ, List.setIfInBounds_toArray, List.set_cons_zero, List.set_cons_succ]
      refine wpAnyH_take (i := 2) (v := ?_) rfl (by kernel_rfl) (by kernel_rfl) (by kernel_rfl) (fun _ _ _ h => h) (Or.inl ⟨by kernel_rfl, ?hy2⟩) (by assumption) ?_
      case hy2 => (intro w hSw; (try dsimp only at hSw); obtain ⟨t00, t01, t02, t03⟩ := (HA.out.on hSw).all; obtain ⟨t10, t11, t12, t13⟩ := (HB.out.on hSw).all; go_simp; try with_reducible rfl)
      try simp only [Act.put, List.getElem_toArray, List.getElem_cons_zero, List.getElem_cons_succ, List.setIfInBounds_toArray, List.set_cons_zero, List.set_cons_succ]
      refine wpAnyH_take (i := 3) (v := ?_) rfl (by kernel_rfl) (by kernel_rfl) (by kernel_rfl) (fun _ _ _ h => h) (Or.inl ⟨by kernel_rfl, ?hy3⟩) (by assumption) ?_
      case hy3 => (intro w hSw; (try dsimp only at hSw); obtain ⟨t00, t01, t02, t03⟩ := (HA.out.on hSw).all; obtain ⟨t10, t11, t12, t13⟩ := (HB.out.on hSw).all; go_simp; try with_reducible rfl)
      try simp only [Act.put, List.getElem_toArray, List.getElem_cons_zero, List.getElem_cons_succ, List.setIfInBounds_toArray, List.set_cons_zero, List.set_cons_succ]
      refine wpAnyH_take (i := 4) (v := ?_) rfl (by kernel_rfl) (by kernel_rfl) (by kernel_rfl) (fun _ _ _ h => h) (Or.inl ⟨by kernel_rfl, ?hy4⟩) (by assumption) ?_
      case hy4 => (intro w hSw; (try dsimp only at hSw); obtain ⟨t00, t01, t02, t03⟩ := (HA.out.on hSw).all; obtain ⟨t10, t11, t12, t13⟩ := (HB.out.on hSw).all; go_simp; try with_reducible rfl)
      try simp only [Act.put, List.getElem_toArray, List.getElem_cons_zero, List.getElem_cons_succ, List.setIfInBounds_toArray, List.set_cons_zero, List.set_cons_succ]
      refine wpAnyH_take (i := 5) (v := ?_) rfl (by kernel_rfl) (by kernel_rfl) (by kernel_rfl) (fun _ _ _ h => h) (Or.inl ⟨by kernel_rfl, ?hy5⟩) (by assumption) ?_
      case hy5 => (intro w hSw; (try dsimp only at hSw); obtain ⟨t00, t01, t02, t03⟩ := (HA.out.on hSw).all; obtain ⟨t10, t11, t12, t13⟩ := (HB.out.on hSw).all; go_simp; try with_reducible rfl)
      try simp only [Act.put, List.getElem_toArray, List.getElem_cons_zero, List.getElem_cons_succ, List.setIfInBounds_toArray, List.set_cons_zero, List.set_cons_succ]
      refine wpAnyH_take (i := 6) (v := ?_) rfl (by kernel_rfl) (by kernel_rfl) (by kernel_rfl) (fun _ _ _ h => h) (Or.inl ⟨by kernel_rfl, ?hy6⟩) (by assumption) ?_
      case hy6 => (intro w hSw; (try dsimp only at hSw); obtain ⟨t00, t01, t02, t03⟩ := (HA.out.on hSw).all; obtain ⟨t10, t11, t12, t13⟩ := (HB.out.on hSw).all; go_simp; try with_reducible rfl)
      try simp only [Act.put, List.getElem_toArray, List.getElem_cons_zero, List.getElem_cons_succ, List.setIfInBounds_toArray, List.set_cons_zero, List.set_cons_succ]
      refine wpAnyH_take (i := 7) (v := ?_) rfl (by kernel_rfl) (by kernel_rfl) (by kernel_rfl) (fun _ _ _ h => h) (Or.inl ⟨by kernel_rfl, ?hy7⟩) (by assumption) ?_
      case hy7 => (intro w hSw; (try dsimp only at hSw); obtain ⟨t00, t01, t02, t03⟩ := (HA.out.on hSw).all; obtain ⟨t10, t11, t12, t13⟩ := (HB.out.on hSw).all; go_simp; try with_reducible rfl)
      try simp only [Act.put, List.getElem_toArray, List.getElem_cons_zero, List.getElem_cons_succ, List.setIfInBounds_toArray, List.set_cons_zero, List.set_cons_succ]
      refine wpAnyH_take (i := 8) (v := ?_) rfl (by kernel_rfl) (by kernel_rfl) (by kernel_rfl) (fun _ _ _ h => h) (Or.inl ⟨by kernel_rfl, ?hy8⟩) (by assumption) ?_
      case hy8 => (intro w hSw; (try dsimp only at hSw); obtain ⟨t00, t01, t02, t03⟩ := (HA.out.on hSw).all; obtain ⟨t10, t11, t12, t13⟩ := (HB.out.on hSw).all; go_simp; try with_reducible rfl)
      try simp only [Act.put, List.getElem_toArray, List.getElem_cons_zero, List.getElem_cons_succ, List.setIfInBounds_toArray, List.set_cons_zero, List.set_cons_succ]
      refine wpAnyH_take (i := 10) (v := ?_) rfl (by kernel_rfl) (by kernel_rfl) (by kernel_rfl) (fun _ _ _ h => h) (Or.inl ⟨by kernel_rfl, ?hy10⟩) (by assumption) ?_
      case hy10 => (intro w hSw; (try dsimp only at hSw); obtain ⟨t00, t01, t02, t03⟩ := (HA.out.on hSw).all; obtain ⟨t10, t11, t12, t13⟩ := (HB.out.on hSw).all; go_simp; try with_reducible rfl)
      try simp only [Act.put, List.getElem_toArray, List.getElem_cons_zero, List.getElem_cons_succ, List.setIfInBounds_toArray, List.set_cons_zero, List.set_cons_succ]
      refine wpAnyH_take (i := 11) (v := ?_) rfl (by kernel_rfl) (by kernel_rfl) (by kernel_rfl) (fun _ _ _ h => h) (Or.inl ⟨by kernel_rfl, ?hy11⟩) (by assumption) ?_
      case hy11 => (intro w hSw; (try dsimp only at hSw); obtain ⟨t00, t01, t02, t03⟩ := (HA.out.on hSw).all; obtain ⟨t10, t11, t12, t13⟩ := (HB.out.on hSw).all; go_simp; try with_reducible rfl)
      try simp only [Act.put, List.getElem_toArray, List.getElem_cons_zero, List.getElem_cons_succ, List.setIfInBounds_toArray, List.set_cons_zero, List.set_cons_succ]
      refine wpAnyH_take (i := 12) (v := ?_) rfl (by kernel_rfl) (by kernel_rfl) (by kernel_rfl) (fun _ _ _ h => h) (Or.inl ⟨by kernel_rfl, ?hy12⟩) (by assumption) ?_
      case hy12 => (intro w hSw; (try dsimp only at hSw); obtain ⟨t00, t01, t02, t03⟩ := (HA.out.on hSw).all; obtain ⟨t10, t11, t12, t13⟩ := (HB.out.on hSw).all; go_simp; try with_reducible rfl)
      try simp only [Act.put, List.getElem_toArray, List.getElem_cons_zero, List.getElem_cons_succ, List.setIfInBounds_toArray, List.set_cons_zero, List.set_cons_succ]
      refine wpAnyH_take (i := 13) (v := ?_) rfl (by kernel_rfl) (by kernel_rfl) (by kernel_rfl) (fun _ _ _ h => h) (Or.inl ⟨by kernel_rfl, ?hy13⟩) (by assumption) ?_
      case hy13 => (intro w hSw; (try dsimp only at hSw); obtain ⟨t00, t01, t02, t03⟩ := (HA.out.on hSw).all; obtain ⟨t10, t11, t12, t13⟩ := (HB.out.on hSw).all; go_simp; try with_reducible rfl)
      try simp only [Act.put, List.getElem_toArray, List.getElem_cons_zero, List.getElem_cons_succ, List.setIfInBounds_toArray, List.set_cons_zero, List.set_cons_succ]
      refine wpAnyH_ready (rs := [9]) (by kernel_rfl) (by simp) ?_
      refine AllReadyH.cons rfl (fun K hK => ?_) AllReadyH.nil
      go_simp
      go_wp2_with fail
      refine (C1.out _).mono ?_
      rintro e u209 ⟨rfl, rfl⟩
      refine hK.out _ _ hHeld (fun _ => ?_)
      clear hK K
      refine wpAnyH_ready (rs := [14]) (by kernel_rfl) (by simp) ?_
      refine AllReadyH.cons rfl (fun K hK => ?_) AllReadyH.nil
      go_simp
      go_wp2_with fail
      refine (C2.out _).mono ?_
      rintro e u214 ⟨rfl, rfl⟩
      refine hK.out _ _ hHeld (fun _ => ?_)
      clear hK K
      refine wpAnyH_take (i := 15) (v := ?_) rfl (by kernel_rfl) (by kernel_rfl) (by kernel_rfl) (fun _ _ _ h => h) (Or.inl ⟨by kernel_rfl, ?hy15⟩) (by assumption) ?_
      case hy15 => (intro w hSw; (try dsimp only at hSw); obtain ⟨t00, t01, t02, t03⟩ := (HA.out.on hSw).all; obtain ⟨t10, t11, t12, t13⟩ := (HB.out.on hSw).all; go_simp; try with_reducible rfl)
      try simp only [Act.put, List.getElem_toArray, List.getElem_cons_zero, List.getElem_cons_succ, List.setIfInBounds_toArray, List.set_cons_zero, List.set_cons_succ]
      refine wpAnyH_take (i := 16) (v := ?_) rfl (by kernel_rfl) (by kernel_rfl) (by kernel_rfl) (fun _ _ _ h => h) (Or.inl ⟨by kernel_rfl, ?hy16⟩) (by assumption) ?_
      case hy16 => (intro w hSw; (try dsimp only at hSw); obtain ⟨t00, t01, t02, t03⟩ := (HA.out.on hSw).all; obtain ⟨t10, t11, t12, t13⟩ := (HB.out.on hSw).all; go_simp; try with_reducible rfl)
      try simp only [Act.put, List.getElem_toArray, List.getElem_cons_zero, List.getElem_cons_succ, List.setIfInBounds_toArray, List.set_cons_zero, List.set_cons_succ]
      refine wpAnyH_take (i := 17) (v := ?_) rfl (by kernel_rfl) (by kernel_rfl) (by kernel_rfl) (fun _ _ _ h => h) (Or.inl ⟨by kernel_rfl, ?hy17⟩) (by assumption) ?_
      case hy17 => (intro w hSw; (try dsimp only at hSw); obtain ⟨t00, t01, t02, t03⟩ := (HA.out.on hSw).all; obtain ⟨t10, t11, t12, t13⟩ := (HB.out.on hSw).all; go_simp; try with_reducible rfl)
      try simp only [Act.put, List.getElem_toArray, List.getElem_cons_zero, List.getElem_cons_succ, List.setIfInBounds_toArray, List.set_cons_zero, List.set_cons_succ]
      refine wpAnyH_done (by kernel_rfl) ?_ _
      clear hHeld
      have HA2 := hid HA.out.drew
      have HB2 := hid HB.out.drew
      go_upto_region 4 with fail
      refine wp_region_held_drew (S := fun x => Below w2.drew.heap.size w2.drew x) (by kernel_rfl) (Below.refl _ _).drew (fun hHeld => ?_)
      have hHeld : Below w2.drew.heap.size w2.drew w2.drew.drew := hHeld
      refine wpAnyH_take (i := 0) (v := ?_) rfl (by kernel_rfl) (by kernel_rfl) (by kernel_rfl) (fun _ _ _ h => h) (Or.inl ⟨by kernel_rfl, ?hy0⟩) (by assumption) ?_
      case hy0 => (intro w hSw; (try dsimp only at hSw); obtain ⟨t00, t01, t02, t03⟩ := (HA2.out.on hSw).all; obtain ⟨t10, t11, t12, t13⟩ := (HB2.out.on hSw).all; go_simp; try with_reducible rfl)
      try simp only [Act.put, List.getElem_toArray, List.getElem_cons_zero, List.setIfInBounds_toArray, List.set_cons_zero, List.set_cons_succ]
      refine wpAnyH_take (i := 1) (v := ?_) rfl (by kernel_rfl) (by kernel_rfl) (by kernel_rfl) (fun _ _ _ h => h) (Or.inl ⟨by kernel_rfl, ?hy1⟩) (by assumption) ?_
      case hy1 => (intro w hSw; (try dsimp only at hSw); obtain ⟨t00, t01, t02, t03⟩ := (HA2.out.on hSw).all; obtain ⟨t10, t11, t12, t13⟩ := (HB2.out.on hSw).all; go_simp; try with_reducible rfl)
      try simp only [Act.put, List.getElem_toArray, List.getElem_cons_zero, List.getElem_cons_succ, List.setIfInBounds_toArray, List.set_cons_zero, List.set_cons_succ]
      refine wpAnyH_take (i := 2) (v := ?_) rfl (by kernel_rfl) (by kernel_rfl) (by kernel_rfl) (fun _ _ _ h => h) (Or.inl ⟨by kernel_rfl, ?hy2⟩) (by assumption) ?_
      case hy2 => (intro w hSw; (try dsimp only at hSw); obtain ⟨t00, t01, t02, t03⟩ := (HA2.out.on hSw).all; obtain ⟨t10, t11, t12, t13⟩ := (HB2.out.on hSw).all; go_simp; try with_reducible rfl)
      try simp only [Act.put, List.getElem_toArray, List.getElem_cons_zero, List.getElem_cons_succ, List.setIfInBounds_toArray, List.set_cons_zero, List.set_cons_succ]
      refine wpAnyH_take (i := 3) (v := ?_) rfl (by kernel_rfl) (by kernel_rfl) (by kernel_rfl) (fun _ _ _ h => h) (Or.inl ⟨by kernel_rfl, ?hy3⟩) (by assumption) ?_
      case hy3 => (intro w hSw; (try dsimp only at hSw); obtain ⟨t00, t01, t02, t03⟩ := (HA2.out.on hSw).all; obtain ⟨t10, t11, t12, t13⟩ := (HB2.out.on hSw).all; go_simp; try with_reducible rfl)
      try simp only [Act.put, List.getElem_toArray, List.getElem_cons_zero, List.getElem_cons_succ, List.setIfInBounds_toArray, List.set_cons_zero, List.set_cons_succ]
      refine wpAnyH_take (i := 4) (v := ?_) rfl (by kernel_rfl) (by kernel_rfl) (by kernel_rfl) (fun _ _ _ h => h) (Or.inl ⟨by kernel_rfl, ?hy4⟩) (by assumption) ?_
      case hy4 => (intro w hSw; (try dsimp only at hSw); obtain ⟨t00, t01, t02, t03⟩ := (HA2.out.on hSw).all; obtain ⟨t10, t11, t12, t13⟩ := (HB2.out.on hSw).all; go_simp; try with_reducible rfl)
      try simp only [Act.put, List.getElem_toArray, List.getElem_cons_zero, List.getElem_cons_succ, List.setIfInBounds_toArray, List.set_cons_zero, List.set_cons_succ]
      refine wpAnyH_take (i := 5) (v := ?_) rfl (by kernel_rfl) (by kernel_rfl) (by kernel_rfl) (fun _ _ _ h => h) (Or.inl ⟨by kernel_rfl, ?hy5⟩) (by assumption) ?_
      case hy5 => (intro w hSw; (try dsimp only at hSw); obtain ⟨t00, t01, t02, t03⟩ := (HA2.out.on hSw).all; obtain ⟨t10, t11, t12, t13⟩ := (HB2.out.on hSw).all; go_simp; try with_reducible rfl)
      try simp only [Act.put, List.getElem_toArray, List.getElem_cons_zero, List.getElem_cons_succ, List.setIfInBounds_toArray, List.set_cons_zero, List.set_cons_succ]
      refine wpAnyH_take (i := 6) (v := ?_) rfl (by kernel_rfl) (by kernel_rfl) (by kernel_rfl) (fun _ _ _ h => h) (Or.inl ⟨by kernel_rfl, ?hy6⟩) (by assumption) ?_
      case hy6 => (intro w hSw; (try dsimp only at hSw); obtain ⟨t00, t01, t02, t03⟩ := (HA2.out.on hSw).all; obtain ⟨t10, t11, t12, t13⟩ := (HB2.out.on hSw).all; go_simp; try with_reducible rfl)
      try simp only [Act.put, List.getElem_toArray, List.getElem_cons_zero, List.getElem_cons_succ, List.setIfInBounds_toArray, List.set_cons_zero, List.set_cons_succ]
      refine wpAnyH_take (i := 7) (v := ?_) rfl (by kernel_rfl) (by kernel_rfl) (by kernel_rfl) (fun _ _ _ h => h) (Or.inl ⟨by kernel_rfl, ?hy7⟩) (by assumption) ?_
      case hy7 => (intro w hSw; (try dsimp only at hSw); obtain ⟨t00, t01, t02, t03⟩ := (HA2.out.on hSw).all; obtain ⟨t10, t11, t12, t13⟩ := (HB2.out.on hSw).all; go_simp; try with_reducible rfl)
      try simp only [Act.put, List.getElem_toArray, List.getElem_cons_zero, List.getElem_cons_succ, List.setIfInBounds_toArray, List.set_cons_zero, List.set_cons_succ]
      refine wpAnyH_take (i := 8) (v := ?_) rfl (by kernel_rfl) (by kernel_rfl) (by kernel_rfl) (fun _ _ _ h => h) (Or.inl ⟨by kernel_rfl, ?hy8⟩) (by assumption) ?_
      case hy8 => (intro w hSw; (try dsimp only at hSw); obtain ⟨t00, t01, t02, t03⟩ := (HA2.out.on hSw).all; obtain ⟨t10, t11, t12, t13⟩ := (HB2.out.on hSw).all; go_simp; try with_reducible rfl)
      try simp only [Act.put, List.getElem_toArray, List.getElem_cons_zero, List.getElem_cons_succ, List.setIfInBounds_toArray, List.set_cons_zero, List.set_cons_succ]
      refine wpAnyH_take (i := 10) (v := ?_) rfl (by kernel_rfl) (by kernel_rfl) (by kernel_rfl) (fun _ _ _ h => h) (Or.inl ⟨by kernel_rfl, ?hy10⟩) (by assumption) ?_
      case hy10 => (intro w hSw; (try dsimp only at hSw); obtain ⟨t00, t01, t02, t03⟩ := (HA2.out.on hSw).all; obtain ⟨t10, t11, t12, t13⟩ := (HB2.out.on hSw).all; go_simp; try with_reducible rfl)
      try simp only [Act.put, List.getElem_toArray, List.getElem_cons_zero, List.getElem_cons_succ, List.setIfInBounds_toArray, List.set_cons_zero, List.set_cons_succ]
      refine wpAnyH_take (i := 11) (v := ?_) rfl (by kernel_rfl) (by kernel_rfl) (by kernel_rfl) (fun _ _ _ h => h) (Or.inl ⟨by kernel_rfl, ?hy11⟩) (by assumption) ?_
      case hy11 => (intro w hSw; (try dsimp only at hSw); obtain ⟨t00, t01, t02, t03⟩ := (HA2.out.on hSw).all; obtain ⟨t10, t11, t12, t13⟩ := (HB2.out.on hSw).all; go_simp; try with_reducible rfl)
      try simp only [Act.put, List.getElem_toArray, List.getElem_cons_zero, List.getElem_cons_succ, List.setIfInBounds_toArray, List.set_cons_zero, List.set_cons_succ]
      refine wpAnyH_take (i := 12) (v := ?_) rfl (by kernel_rfl) (by kernel_rfl) (by kernel_rfl) (fun _ _ _ h => h) (Or.inl ⟨by kernel_rfl, ?hy12⟩) (by assumption) ?_
      case hy12 => (intro w hSw; (try dsimp only at hSw); obtain ⟨t00, t01, t02, t03⟩ := (HA2.out.on hSw).all; obtain ⟨t10, t11, t12, t13⟩ := (HB2.out.on hSw).all; go_simp; try with_reducible rfl)
      try simp only [Act.put, List.getElem_toArray, List.getElem_cons_zero, List.getElem_cons_succ, List.setIfInBounds_toArray, List.set_cons_zero, List.set_cons_succ]
      refine wpAnyH_take (i := 13) (v := ?_) rfl (by kernel_rfl) (by kernel_rfl) (by kernel_rfl) (fun _ _ _ h => h) (Or.inl ⟨by kernel_rfl, ?hy13⟩) (by assumption) ?_
      case hy13 => (intro w hSw; (try dsimp only at hSw); obtain ⟨t00, t01, t02, t03⟩ := (HA2.out.on hSw).all; obtain ⟨t10, t11, t12, t13⟩ := (HB2.out.on hSw).all; go_simp; try with_reducible rfl)
      try simp only [Act.put, List.getElem_toArray, List.getElem_cons_zero, List.getElem_cons_succ, List.setIfInBounds_toArray, List.set_cons_zero, List.set_cons_succ]
      refine wpAnyH_ready (rs := [9]) (by kernel_rfl) (by simp) ?_
      refine AllReadyH.cons rfl (fun K hK => ?_) AllReadyH.nil
      go_simp
      go_wp2_with fail
      refine (C3.out _).mono ?_
      rintro e u209 ⟨rfl, rfl⟩
      refine hK.out _ _ hHeld (fun _ => ?_)
      clear hK K
      refine wpAnyH_ready (rs := [14]) (by kernel_rfl) (by simp) ?_
      refine AllReadyH.cons rfl (fun K hK => ?_) AllReadyH.nil
      go_simp
      go_wp2_with fail
      refine (C4.out _).mono ?_
      rintro e u214 ⟨rfl, rfl⟩
      refine hK.out _ _ hHeld (fun _ => ?_)
      clear hK K
      refine wpAnyH_take (i := 15) (v := ?_) rfl (by kernel_rfl) (by kernel_rfl) (by kernel_rfl) (fun _ _ _ h => h) (Or.inl ⟨by kernel_rfl, ?hy15⟩) (by assumption) ?_
      case hy15 => (intro w hSw; (try dsimp only at hSw); obtain ⟨t00, t01, t02, t03⟩ := (HA2.out.on hSw).all; obtain ⟨t10, t11, t12, t13⟩ := (HB2.out.on hSw).all; go_simp; try with_reducible rfl)
      try simp only [Act.put, List.getElem_toArray, List.getElem_cons_zero, List.getElem_cons_succ, List.setIfInBounds_toArray, List.set_cons_zero, List.set_cons_succ]
      refine wpAnyH_take (i := 16) (v := ?_) rfl (by kernel_rfl) (by kernel_rfl) (by kernel_rfl) (fun _ _ _ h => h) (Or.inl ⟨by kernel_rfl, ?hy16⟩) (by assumption) ?_
      case hy16 => (intro w hSw; (try dsimp only at hSw); obtain ⟨t00, t01, t02, t03⟩ := (HA2.out.on hSw).all; obtain ⟨t10, t11, t12, t13⟩ := (HB2.out.on hSw).all; go_simp; try with_reducible rfl)
      try simp only [Act.put, List.getElem_toArray, List.getElem_cons_zero, List.getElem_cons_succ, List.setIfInBounds_toArray, List.set_cons_zero, List.set_cons_succ]
      refine wpAnyH_take (i := 17) (v := ?_) rfl (by kernel_rfl) (by kernel_rfl) (by kernel_rfl) (fun _ _ _ h => h) (Or.inl ⟨by kernel_rfl, ?hy17⟩) (by assumption) ?_
      case hy17 => (intro w hSw; (try dsimp only at hSw); obtain ⟨t00, t01, t02, t03⟩ := (HA2.out.on hSw).all; obtain ⟨t10, t11, t12, t13⟩ := (HB2.out.on hSw).all; go_simp; try with_reducible rfl)
      try simp only [Act.put, List.getElem_toArray, List.getElem_cons_zero, List.getElem_cons_succ, List.setIfInBounds_toArray, List.set_cons_zero, List.set_cons_succ]
      refine wpAnyH_done (by kernel_rfl) ?_ _
      clear hHeld HA HB HA2 HB2 C1 C2 C3 C4
      obtain ⟨d0, d1, d2, d3⟩ := HR.out.all
      have fz := HR.out.fz
      by_cases h1 : min (en a.x a.w) (en b.x b.w) ≤ max a.x b.x
      · have e1 : decide (min (en a.x a.w) (en b.x b.w) ≤ max a.x b.x) = true := decide_eq_true h1
        clear W1 W2
        go_wp2
        refine bodyPost_ret (results_cell_row rfl _ _ (w.heap.size + 1 + 1) _ _ _ _ rfl (HR.out.st rz).drew.drew.obj Try.underlying36 rfl infoR) rfl ?_
        exact ⟨by rw [oft_left h1], (below_st HW.out (by omega) rz).drew.drew⟩
      · have e1 : decide (min (en a.x a.w) (en b.x b.w) ≤ max a.x b.x) = false := decide_eq_false h1
        by_cases h2 : min (en a.y a.h) (en b.y b.h) ≤ max a.y b.y
        · have e2 : decide (min (en a.y a.h) (en b.y b.h) ≤ max a.y b.y) = true := decide_eq_true h2
          clear W1 W2
          go_wp2
          refine bodyPost_ret (results_cell_row rfl _ _ (w.heap.size + 1 + 1) _ _ _ _ rfl (HR.out.st rz).drew.drew.obj Try.underlying36 rfl infoR) rfl ?_
          exact ⟨by rw [oft_top h2], (below_st HW.out (by omega) rz).drew.drew⟩
        · have e2 : decide (min (en a.y a.h) (en b.y b.h) ≤ max a.y b.y) = false := decide_eq_false h2
          have g1 := W1.out (Int.not_le.1 h1)
          have g2 := W2.out (Int.not_le.1 h2)
          clear W1 W2
          go_wp2
          refine bodyPost_ret (results_cell_row rfl _ _ (w.heap.size + 1 + 1) _ _ _ _ rfl (HR.out.st ⟨_, _, _, _⟩).drew.drew.obj Try.underlying36 rfl infoR) rfl ?_
          exact ⟨by rw [oft_full (Int.not_le.2 h1) (Int.not_le.2 h2)], (below_st HW.out (by omega) ⟨_, _, _, _⟩).drew.drew⟩
    · rw [hf] at CF
      rw [he] at CE
      rw [cut_emp2 a hf]
      clear ha hb he hf
      go_enter Try.func42, Try.ntmps42
      go_wp2_with fail
      refine (CE.out _).mono ?_
      rintro e w1 ⟨rfl, hb1⟩
      obtain ⟨_, hB, hR, hw⟩ := box3 a b rz hb1
      obtain ⟨c0, c1, c2, c3⟩ := hB.all
      clear hb1
      go_wp2_with fail
      refine (CF.out _).mono ?_
      rintro e w2 ⟨rfl, hb2⟩
      have HR2 := hid (hR.on hb2)
      have HW2 := hid (Below.on hw hb2)
      clear c0 c1 c2 c3 hB hR hw hb2 CE CF
      obtain ⟨d0, d1, d2, d3⟩ := HR2.out.all
      have fz := HR2.out.fz
      go_wp2
      refine bodyPost_ret (results_cell_row rfl _ _ (w.heap.size + 1 + 1) _ _ _ _ rfl (HR2.out.st rz).obj Try.underlying36 rfl infoR) rfl ?_
      exact ⟨rfl, below_st HW2.out (by omega) rz⟩
  · rw [he] at CE
    rw [cut_emp1 he]
    clear ha hb he CF
    go_enter Try.func42, Try.ntmps42
    go_wp2_with fail
    refine (CE.out _).mono ?_
    rintro e w1 ⟨rfl, hb1⟩
    obtain ⟨_, _, hR, hw⟩ := box3 a b rz hb1
    clear hb1
    have HR2 := hid hR
    have HW2 := hid hw
    clear hR hw CE
    obtain ⟨d0, d1, d2, d3⟩ := HR2.out.all
    have fz := HR2.out.fz
    go_wp2
    refine bodyPost_ret (results_cell_row rfl _ _ (w.heap.size + 1 + 1) _ _ _ _ rfl (HR2.out.st rz).obj Try.underlying36 rfl infoR) rfl ?_
    exact ⟨rfl, below_st HW2.out (by omega) rz⟩

/-- The field. -/
def fld : Rc := ⟨-16777216, -16777216, 33554432, 33554432⟩
theorem fld_ok : fld.Ok := ⟨by decide, by decide, by decide, by decide⟩
def bnd (a : Rc) : Rc := cut a fld

set_option maxRecDepth 100000 in
theorem bound_any (a : Rc) (ha : a.Ok) (w : World) : Calls Try.prog 40 #[.agg #[.int .i64 a.x, .int .i64 a.y, .int .i64 a.w, .int .i64 a.h]] w fun e w' => e = .returned (.agg #[.int .i64 (bnd a).x, .int .i64 (bnd a).y, .int .i64 (bnd a).w, .int .i64 (bnd a).h]) ∧ Below w.heap.size w w' := by
  have CC := hid (fun w => cut_any a fld ha fld_ok w)
  rw [show fld = ⟨-16777216, -16777216, 33554432, 33554432⟩ from rfl] at CC
  clear ha
  unfold bnd
  go_enter Try.func40, Try.ntmps40
  go_wp2_with fail
  refine (CC.out _).mono ?_
  rintro e w1 ⟨rfl, hb1⟩
  obtain ⟨_, hR, hw⟩ := box2 a rz hb1
  have HR := hid hR
  have HW := hid hw
  obtain ⟨d0, d1, d2, d3⟩ := hR.all
  have fz := hR.fz
  clear hb1 hR hw CC
  go_wp2
  refine bodyPost_ret (results_cell_row rfl _ _ (w.heap.size + 1) _ _ _ _ rfl (HR.out.st (cut a fld)).obj Try.underlying36 rfl infoR) rfl ?_
  exact ⟨rfl, below_st HW.out (by omega) (cut a fld)⟩
end Go.Proofs.Ytlkodgmnhphfcaa
