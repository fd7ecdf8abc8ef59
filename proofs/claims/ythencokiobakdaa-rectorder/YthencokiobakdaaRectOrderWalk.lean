/- RectOrder: for every two rectangles the call returns true; nothing that was there has turned. -/
import Derived.Test.YthencokiobakdaaRectL
namespace Go.Proofs.Ythencokiobakdaa.rectOrder
open Go Go.RowKit

set_option maxRecDepth 100000 in
set_option maxHeartbeats 4000000 in
theorem core (a b : Rc) (ha : a.Ok) (hb : b.Ok) (w : World) : Calls Try.prog 5 #[.agg #[.int .i64 a.x, .int .i64 a.y, .int .i64 a.w, .int .i64 a.h], .agg #[.int .i64 b.x, .int .i64 b.y, .int .i64 b.w, .int .i64 b.h]] w fun e w' => e = .returned (.bool true) ∧ Below w.heap.size w w' := by
  have CM := hid (fun w => rcheck_any a w)
  have CN := hid (fun w => rcheck_any b w)
  cases hm : dck a
  · rw [hm] at CM
    clear ha hb
    go_enter Try.func5, Try.ntmps5
    go_wp2_with fail
    refine (CM.out _).mono ?_
    rintro e w1 ⟨rfl, hb1⟩
    obtain ⟨hA, hB, hw⟩ := box2 a b hb1
    clear hA hB hb1
    go_wp2_with fail
    refine (awake_any _).mono ?_
    rintro e w2 ⟨rfl, hb2⟩
    go_wp2
    go_ret
    exact ⟨rfl, Below.on hw hb2⟩
  · rw [hm] at CM
    cases hn : dck b
    · rw [hn] at CN
      clear ha hb
      go_enter Try.func5, Try.ntmps5
      go_wp2_with fail
      refine (CM.out _).mono ?_
      rintro e w1 ⟨rfl, hb1⟩
      obtain ⟨hA, hB, hw⟩ := box2 a b hb1
      obtain ⟨c10, c11, c12, c13⟩ := hB.all
      clear hA hB hb1
      go_wp2_with fail
      refine (CN.out _).mono ?_
      rintro e w2 ⟨rfl, hb2⟩
      go_wp2_with fail
      refine (awake_any _).mono ?_
      rintro e w3 ⟨rfl, hb3⟩
      go_wp2
      go_ret
      exact ⟨rfl, Below.on (Below.on hw hb2) hb3⟩
    · rw [hn] at CN
      have ka := dck_iff.1 hm
      have kb := dck_iff.1 hn
      have D1 := hid (fun w => cut_any a b ha hb w)
      have D2 := hid (fun w => cover_any a b ha hb (fun _ _ => cvr_ok ka kb) w)
      go_enter Try.func5, Try.ntmps5
      go_wp2_with fail
      refine (CM.out _).mono ?_
      rintro e w1 ⟨rfl, hb1⟩
      obtain ⟨hA, hB, hw⟩ := box2 a b hb1
      obtain ⟨c10, c11, c12, c13⟩ := hB.all
      clear hb1
      go_wp2_with fail
      refine (CN.out _).mono ?_
      rintro e w2 ⟨rfl, hb2⟩
      have HA := hid (hA.on hb2)
      have HB := hid (hB.on hb2)
      have HW := hid (Below.on hw hb2)
      clear c10 c11 c12 c13 hA hB hw hb2 CM CN hm hn
      go_upto_region 3 with fail
      go_cut [5, 6] (fun s5 s6 wc => ∃ p q, s5 = .pointer (some ⟨p, 0, none⟩) ∧ s6 = .pointer (some ⟨q, 0, none⟩) ∧ Bx wc w.heap.size a ∧ Bx wc (w.heap.size + 1) b ∧ Bx wc p (cut a b) ∧ Bx wc q (cov a b) ∧ Below w.heap.size w wc)
      case first =>
        refine wp_region_held_drew (S := fun x => Below w2.heap.size w2 x) (by kernel_rfl) (Below.refl _ _).drew (fun hHeld => ?_)
        have hHeld : Below w2.heap.size w2 w2.drew := hHeld
        refine wpAnyH_take (i := 0) (v := ?_) rfl (by kernel_rfl) (by kernel_rfl) (by kernel_rfl) (fun _ _ _ h => h) (Or.inl ⟨by kernel_rfl, ?hy0⟩) (by assumption) ?_
        case hy0 => (intro w hSw; (try dsimp only at hSw); obtain ⟨t00, t01, t02, t03⟩ := (HA.out.on hSw).all; obtain ⟨t10, t11, t12, t13⟩ := (HB.out.on hSw).all; go_simp; try with_reducible rfl)
        try simp only [Act.put, List.getElem_toArray, List.getElem_cons_zero, List.setIfInBounds_toArray, List.set_cons_zero, List.set_cons_succ]
        refine wpAnyH_take (i := 1) (v := ?_) rfl (by kernel_rfl) (by kernel_rfl) (by kernel_rfl) (fun _ _ _ h => h) (Or.inl ⟨by kernel_rfl, ?hy1⟩) (by assumption) ?_
        case hy1 => (intro w hSw; (try dsimp only at hSw); obtain ⟨t00, t01, t02, t03⟩ := (HA.out.on hSw).all; obtain ⟨t10, t11, t12, t13⟩ := (HB.out.on hSw).all; go_simp; try with_reducible rfl)
        try simp only [Act.put, List.getElem_toArray, List.getElem_cons_zero, List.getElem_cons_succ, List.setIfInBounds_toArray, List.set_cons_zero, List.set_cons_succ]
        refine wpAnyH_take (i := 3) (v := ?_) rfl (by kernel_rfl) (by kernel_rfl) (by kernel_rfl) (fun _ _ _ h => h) (Or.inl ⟨by kernel_rfl, ?hy3⟩) (by assumption) ?_
        case hy3 => (intro w hSw; (try dsimp only at hSw); obtain ⟨t00, t01, t02, t03⟩ := (HA.out.on hSw).all; obtain ⟨t10, t11, t12, t13⟩ := (HB.out.on hSw).all; go_simp; try with_reducible rfl)
        try simp only [Act.put, List.getElem_toArray, List.getElem_cons_zero, List.getElem_cons_succ, List.setIfInBounds_toArray, List.set_cons_zero, List.set_cons_succ]
        refine wpAnyH_take (i := 4) (v := ?_) rfl (by kernel_rfl) (by kernel_rfl) (by kernel_rfl) (fun _ _ _ h => h) (Or.inl ⟨by kernel_rfl, ?hy4⟩) (by assumption) ?_
        case hy4 => (intro w hSw; (try dsimp only at hSw); obtain ⟨t00, t01, t02, t03⟩ := (HA.out.on hSw).all; obtain ⟨t10, t11, t12, t13⟩ := (HB.out.on hSw).all; go_simp; try with_reducible rfl)
        try simp only [Act.put, List.getElem_toArray, List.getElem_cons_zero, List.getElem_cons_succ, List.setIfInBounds_toArray, List.set_cons_zero, List.set_cons_succ]
        have hA := HA.out.drew
        have hB := HB.out.drew
        have hw := HW.out.drew
        have lA := HA.out.lt
        have lB := HB.out.lt
        generalize w2.drew = wd at hHeld hA hB hw ⊢
        refine wpAnyH_ready (rs := [2, 6, 7]) (by kernel_rfl) (by simp) ?_
        refine AllReadyH.cons rfl (fun K hK => ?_) ?_
        · go_simp
          go_wp2_with fail
          refine (D1.out _).mono ?_
          rintro e wx1 ⟨rfl, hb⟩
          replace hHeld := Below.on hHeld hb
          replace hA := hA.on hb
          replace hB := hB.on hb
          replace hw := Below.on hw hb
          refine hK.out _ _ hHeld (fun _ => ?_)
          clear hK K hb
          refine wpAnyH_ready (rs := [5, 6, 7]) (by kernel_rfl) (by simp) ?_
          refine AllReadyH.cons rfl (fun K hK => ?_) ?_
          · go_simp
            go_wp2_with fail
            refine (D2.out _).mono ?_
            rintro e wx2 ⟨rfl, hb⟩
            replace hHeld := Below.on hHeld hb
            replace hA := hA.on hb
            replace hB := hB.on hb
            replace hw := Below.on hw hb
            refine hK.out _ _ hHeld (fun _ => ?_)
            clear hK K hb
            refine wpAnyH_ready (rs := [6, 7]) (by kernel_rfl) (by simp) ?_
            refine AllReadyH.cons rfl (fun K hK => ?_) ?_
            · go_simp
              have l6 : ¬ wx2.heap.size < w2.heap.size := Nat.not_lt.2 hHeld.size
              have F : Below w2.heap.size w2 (wx2.alloc (.cells #[.int .i64 0, .int .i64 0, .int .i64 0, .int .i64 0] 23)) ∧ Bx (wx2.alloc (.cells #[.int .i64 0, .int .i64 0, .int .i64 0, .int .i64 0] 23)) w.heap.size a ∧ Bx (wx2.alloc (.cells #[.int .i64 0, .int .i64 0, .int .i64 0, .int .i64 0] 23)) (w.heap.size + 1) b ∧ Below w.heap.size w (wx2.alloc (.cells #[.int .i64 0, .int .i64 0, .int .i64 0, .int .i64 0] 23)) ∧ Bx (wx2.alloc (.cells #[.int .i64 0, .int .i64 0, .int .i64 0, .int .i64 0] 23)) wx2.heap.size rz := ⟨Below.on hHeld (below_new _ _), hA.on (below_new _ _), hB.on (below_new _ _), Below.on hw (below_new _ _), bx_new _ rz⟩
              refine hK.out _ _ F.1 (fun _ => ?_)
              clear hK K hHeld hA hB hw
              revert F
              generalize wx2.alloc (.cells #[.int .i64 0, .int .i64 0, .int .i64 0, .int .i64 0] 23) = wx3
              rintro ⟨hHeld, hA, hB, hw, h6⟩
              refine wpAnyH_ready (rs := [7]) (by kernel_rfl) (by simp) ?_
              refine AllReadyH.cons rfl (fun K hK => ?_) AllReadyH.nil
              go_simp
              have l7 : ¬ wx3.heap.size < w2.heap.size := Nat.not_lt.2 hHeld.size
              have n67 : wx2.heap.size ≠ wx3.heap.size := Nat.ne_of_lt h6.lt
              have F : Below w2.heap.size w2 (wx3.alloc (.cells #[.int .i64 0, .int .i64 0, .int .i64 0, .int .i64 0] 23)) ∧ Bx (wx3.alloc (.cells #[.int .i64 0, .int .i64 0, .int .i64 0, .int .i64 0] 23)) w.heap.size a ∧ Bx (wx3.alloc (.cells #[.int .i64 0, .int .i64 0, .int .i64 0, .int .i64 0] 23)) (w.heap.size + 1) b ∧ Below w.heap.size w (wx3.alloc (.cells #[.int .i64 0, .int .i64 0, .int .i64 0, .int .i64 0] 23)) ∧ Bx (wx3.alloc (.cells #[.int .i64 0, .int .i64 0, .int .i64 0, .int .i64 0] 23)) wx3.heap.size rz ∧ Bx (wx3.alloc (.cells #[.int .i64 0, .int .i64 0, .int .i64 0, .int .i64 0] 23)) wx2.heap.size rz := ⟨Below.on hHeld (below_new _ _), hA.on (below_new _ _), hB.on (below_new _ _), Below.on hw (below_new _ _), bx_new _ rz, h6.on (below_new _ _)⟩
              refine hK.out _ _ F.1 (fun _ => ?_)
              clear hK K hHeld hA hB hw h6
              revert F
              generalize wx3.alloc (.cells #[.int .i64 0, .int .i64 0, .int .i64 0, .int .i64 0] 23) = wx4
              rintro ⟨hHeld, hA, hB, hw, h7, h6⟩
              obtain ⟨d0, d1, d2, d3⟩ := h6.all
              have fz := h6.fz
              refine wpAnyH_ready (rs := [8]) (by kernel_rfl) (by simp) ?_
              refine AllReadyH.cons rfl (fun K hK => ?_) AllReadyH.nil
              go_simp
              have F : Below w2.heap.size w2 (st4 wx4 wx2.heap.size (cut a b)) ∧ Bx (st4 wx4 wx2.heap.size (cut a b)) w.heap.size a ∧ Bx (st4 wx4 wx2.heap.size (cut a b)) (w.heap.size + 1) b ∧ Below w.heap.size w (st4 wx4 wx2.heap.size (cut a b)) ∧ Bx (st4 wx4 wx2.heap.size (cut a b)) wx2.heap.size (cut a b) ∧ Bx (st4 wx4 wx2.heap.size (cut a b)) wx3.heap.size (rz) := ⟨below_st hHeld (Nat.le_of_not_lt l6) _, hA.st_other (fun e => l6 (by rw [← e]; exact lA)) _, hB.st_other (fun e => l6 (by rw [← e]; exact lB)) _, below_st hw (by omega) _, h6.st _, h7.st_other n67.symm _⟩
              refine hK.out _ _ F.1 (fun _ => ?_)
              clear hK K d0 d1 d2 d3 fz
              change wpAnyH _ _ _ _ _ _ _ _ (st4 wx4 wx2.heap.size (cut a b))
              clear hHeld hA hB hw h6 h7
              revert F
              generalize st4 wx4 wx2.heap.size (cut a b) = wx5
              rintro ⟨hHeld, hA, hB, hw, h6, h7⟩
              obtain ⟨d0, d1, d2, d3⟩ := h7.all
              have fz := h7.fz
              refine wpAnyH_ready (rs := [9]) (by kernel_rfl) (by simp) ?_
              refine AllReadyH.cons rfl (fun K hK => ?_) AllReadyH.nil
              go_simp
              have F : Below w2.heap.size w2 (st4 wx5 wx3.heap.size (cov a b)) ∧ Bx (st4 wx5 wx3.heap.size (cov a b)) w.heap.size a ∧ Bx (st4 wx5 wx3.heap.size (cov a b)) (w.heap.size + 1) b ∧ Below w.heap.size w (st4 wx5 wx3.heap.size (cov a b)) ∧ Bx (st4 wx5 wx3.heap.size (cov a b)) wx3.heap.size (cov a b) ∧ Bx (st4 wx5 wx3.heap.size (cov a b)) wx2.heap.size (cut a b) := ⟨below_st hHeld (Nat.le_of_not_lt l7) _, hA.st_other (fun e => l7 (by rw [← e]; exact lA)) _, hB.st_other (fun e => l7 (by rw [← e]; exact lB)) _, below_st hw (by omega) _, h7.st _, h6.st_other n67 _⟩
              refine hK.out _ _ F.1 (fun _ => ?_)
              clear hK K d0 d1 d2 d3 fz
              change wpAnyH _ _ _ _ _ _ _ _ (st4 wx5 wx3.heap.size (cov a b))
              clear hHeld hA hB hw h6 h7
              revert F
              generalize st4 wx5 wx3.heap.size (cov a b) = wx6
              rintro ⟨hHeld, hA, hB, hw, h7, h6⟩
              refine wpAnyH_done (by kernel_rfl) ?_ _
              go_wp2_with fail
              go_meet
              exact ⟨_, _, rfl, rfl, hA, hB, h6, h7, hw⟩
            refine AllReadyH.cons rfl (fun K hK => ?_) AllReadyH.nil
            go_simp
            have l7 : ¬ wx2.heap.size < w2.heap.size := Nat.not_lt.2 hHeld.size
            have F : Below w2.heap.size w2 (wx2.alloc (.cells #[.int .i64 0, .int .i64 0, .int .i64 0, .int .i64 0] 23)) ∧ Bx (wx2.alloc (.cells #[.int .i64 0, .int .i64 0, .int .i64 0, .int .i64 0] 23)) w.heap.size a ∧ Bx (wx2.alloc (.cells #[.int .i64 0, .int .i64 0, .int .i64 0, .int .i64 0] 23)) (w.heap.size + 1) b ∧ Below w.heap.size w (wx2.alloc (.cells #[.int .i64 0, .int .i64 0, .int .i64 0, .int .i64 0] 23)) ∧ Bx (wx2.alloc (.cells #[.int .i64 0, .int .i64 0, .int .i64 0, .int .i64 0] 23)) wx2.heap.size rz := ⟨Below.on hHeld (below_new _ _), hA.on (below_new _ _), hB.on (below_new _ _), Below.on hw (below_new _ _), bx_new _ rz⟩
            refine hK.out _ _ F.1 (fun _ => ?_)
            clear hK K hHeld hA hB hw
            revert F
            generalize wx2.alloc (.cells #[.int .i64 0, .int .i64 0, .int .i64 0, .int .i64 0] 23) = wx7
            rintro ⟨hHeld, hA, hB, hw, h7⟩
            refine wpAnyH_ready (rs := [6]) (by kernel_rfl) (by simp) ?_
            refine AllReadyH.cons rfl (fun K hK => ?_) AllReadyH.nil
            go_simp
            have l6 : ¬ wx7.heap.size < w2.heap.size := Nat.not_lt.2 hHeld.size
            have n67 : wx7.heap.size ≠ wx2.heap.size := Nat.ne_of_gt h7.lt
            have F : Below w2.heap.size w2 (wx7.alloc (.cells #[.int .i64 0, .int .i64 0, .int .i64 0, .int .i64 0] 23)) ∧ Bx (wx7.alloc (.cells #[.int .i64 0, .int .i64 0, .int .i64 0, .int .i64 0] 23)) w.heap.size a ∧ Bx (wx7.alloc (.cells #[.int .i64 0, .int .i64 0, .int .i64 0, .int .i64 0] 23)) (w.heap.size + 1) b ∧ Below w.heap.size w (wx7.alloc (.cells #[.int .i64 0, .int .i64 0, .int .i64 0, .int .i64 0] 23)) ∧ Bx (wx7.alloc (.cells #[.int .i64 0, .int .i64 0, .int .i64 0, .int .i64 0] 23)) wx7.heap.size rz ∧ Bx (wx7.alloc (.cells #[.int .i64 0, .int .i64 0, .int .i64 0, .int .i64 0] 23)) wx2.heap.size rz := ⟨Below.on hHeld (below_new _ _), hA.on (below_new _ _), hB.on (below_new _ _), Below.on hw (below_new _ _), bx_new _ rz, h7.on (below_new _ _)⟩
            refine hK.out _ _ F.1 (fun _ => ?_)
            clear hK K hHeld hA hB hw h7
            revert F
            generalize wx7.alloc (.cells #[.int .i64 0, .int .i64 0, .int .i64 0, .int .i64 0] 23) = wx8
            rintro ⟨hHeld, hA, hB, hw, h6, h7⟩
            obtain ⟨d0, d1, d2, d3⟩ := h6.all
            have fz := h6.fz
            refine wpAnyH_ready (rs := [8]) (by kernel_rfl) (by simp) ?_
            refine AllReadyH.cons rfl (fun K hK => ?_) AllReadyH.nil
            go_simp
            have F : Below w2.heap.size w2 (st4 wx8 wx7.heap.size (cut a b)) ∧ Bx (st4 wx8 wx7.heap.size (cut a b)) w.heap.size a ∧ Bx (st4 wx8 wx7.heap.size (cut a b)) (w.heap.size + 1) b ∧ Below w.heap.size w (st4 wx8 wx7.heap.size (cut a b)) ∧ Bx (st4 wx8 wx7.heap.size (cut a b)) wx7.heap.size (cut a b) ∧ Bx (st4 wx8 wx7.heap.size (cut a b)) wx2.heap.size (rz) := ⟨below_st hHeld (Nat.le_of_not_lt l6) _, hA.st_other (fun e => l6 (by rw [← e]; exact lA)) _, hB.st_other (fun e => l6 (by rw [← e]; exact lB)) _, below_st hw (by omega) _, h6.st _, h7.st_other n67.symm _⟩
            refine hK.out _ _ F.1 (fun _ => ?_)
            clear hK K d0 d1 d2 d3 fz
            change wpAnyH _ _ _ _ _ _ _ _ (st4 wx8 wx7.heap.size (cut a b))
            clear hHeld hA hB hw h6 h7
            revert F
            generalize st4 wx8 wx7.heap.size (cut a b) = wx9
            rintro ⟨hHeld, hA, hB, hw, h6, h7⟩
            obtain ⟨d0, d1, d2, d3⟩ := h7.all
            have fz := h7.fz
            refine wpAnyH_ready (rs := [9]) (by kernel_rfl) (by simp) ?_
            refine AllReadyH.cons rfl (fun K hK => ?_) AllReadyH.nil
            go_simp
            have F : Below w2.heap.size w2 (st4 wx9 wx2.heap.size (cov a b)) ∧ Bx (st4 wx9 wx2.heap.size (cov a b)) w.heap.size a ∧ Bx (st4 wx9 wx2.heap.size (cov a b)) (w.heap.size + 1) b ∧ Below w.heap.size w (st4 wx9 wx2.heap.size (cov a b)) ∧ Bx (st4 wx9 wx2.heap.size (cov a b)) wx2.heap.size (cov a b) ∧ Bx (st4 wx9 wx2.heap.size (cov a b)) wx7.heap.size (cut a b) := ⟨below_st hHeld (Nat.le_of_not_lt l7) _, hA.st_other (fun e => l7 (by rw [← e]; exact lA)) _, hB.st_other (fun e => l7 (by rw [← e]; exact lB)) _, below_st hw (by omega) _, h7.st _, h6.st_other n67 _⟩
            refine hK.out _ _ F.1 (fun _ => ?_)
            clear hK K d0 d1 d2 d3 fz
            change wpAnyH _ _ _ _ _ _ _ _ (st4 wx9 wx2.heap.size (cov a b))
            clear hHeld hA hB hw h6 h7
            revert F
            generalize st4 wx9 wx2.heap.size (cov a b) = wx10
            rintro ⟨hHeld, hA, hB, hw, h7, h6⟩
            refine wpAnyH_done (by kernel_rfl) ?_ _
            go_wp2_with fail
            go_meet
            exact ⟨_, _, rfl, rfl, hA, hB, h6, h7, hw⟩
          refine AllReadyH.cons rfl (fun K hK => ?_) ?_
          · go_simp
            have l6 : ¬ wx1.heap.size < w2.heap.size := Nat.not_lt.2 hHeld.size
            have F : Below w2.heap.size w2 (wx1.alloc (.cells #[.int .i64 0, .int .i64 0, .int .i64 0, .int .i64 0] 23)) ∧ Bx (wx1.alloc (.cells #[.int .i64 0, .int .i64 0, .int .i64 0, .int .i64 0] 23)) w.heap.size a ∧ Bx (wx1.alloc (.cells #[.int .i64 0, .int .i64 0, .int .i64 0, .int .i64 0] 23)) (w.heap.size + 1) b ∧ Below w.heap.size w (wx1.alloc (.cells #[.int .i64 0, .int .i64 0, .int .i64 0, .int .i64 0] 23)) ∧ Bx (wx1.alloc (.cells #[.int .i64 0, .int .i64 0, .int .i64 0, .int .i64 0] 23)) wx1.heap.size rz := ⟨Below.on hHeld (below_new _ _), hA.on (below_new _ _), hB.on (below_new _ _), Below.on hw (below_new _ _), bx_new _ rz⟩
            refine hK.out _ _ F.1 (fun _ => ?_)
            clear hK K hHeld hA hB hw
            revert F
            generalize wx1.alloc (.cells #[.int .i64 0, .int .i64 0, .int .i64 0, .int .i64 0] 23) = wx11
            rintro ⟨hHeld, hA, hB, hw, h6⟩
            refine wpAnyH_ready (rs := [5, 7]) (by kernel_rfl) (by simp) ?_
            refine AllReadyH.cons rfl (fun K hK => ?_) ?_
            · go_simp
              go_wp2_with fail
              refine (D2.out _).mono ?_
              rintro e wx12 ⟨rfl, hb⟩
              replace hHeld := Below.on hHeld hb
              replace hA := hA.on hb
              replace hB := hB.on hb
              replace hw := Below.on hw hb
              replace h6 := h6.on hb
              refine hK.out _ _ hHeld (fun _ => ?_)
              clear hK K hb
              refine wpAnyH_ready (rs := [7]) (by kernel_rfl) (by simp) ?_
              refine AllReadyH.cons rfl (fun K hK => ?_) AllReadyH.nil
              go_simp
              have l7 : ¬ wx12.heap.size < w2.heap.size := Nat.not_lt.2 hHeld.size
              have n67 : wx1.heap.size ≠ wx12.heap.size := Nat.ne_of_lt h6.lt
              have F : Below w2.heap.size w2 (wx12.alloc (.cells #[.int .i64 0, .int .i64 0, .int .i64 0, .int .i64 0] 23)) ∧ Bx (wx12.alloc (.cells #[.int .i64 0, .int .i64 0, .int .i64 0, .int .i64 0] 23)) w.heap.size a ∧ Bx (wx12.alloc (.cells #[.int .i64 0, .int .i64 0, .int .i64 0, .int .i64 0] 23)) (w.heap.size + 1) b ∧ Below w.heap.size w (wx12.alloc (.cells #[.int .i64 0, .int .i64 0, .int .i64 0, .int .i64 0] 23)) ∧ Bx (wx12.alloc (.cells #[.int .i64 0, .int .i64 0, .int .i64 0, .int .i64 0] 23)) wx12.heap.size rz ∧ Bx (wx12.alloc (.cells #[.int .i64 0, .int .i64 0, .int .i64 0, .int .i64 0] 23)) wx1.heap.size rz := ⟨Below.on hHeld (below_new _ _), hA.on (below_new _ _), hB.on (below_new _ _), Below.on hw (below_new _ _), bx_new _ rz, h6.on (below_new _ _)⟩
              refine hK.out _ _ F.1 (fun _ => ?_)
              clear hK K hHeld hA hB hw h6
              revert F
              generalize wx12.alloc (.cells #[.int .i64 0, .int .i64 0, .int .i64 0, .int .i64 0] 23) = wx13
              rintro ⟨hHeld, hA, hB, hw, h7, h6⟩
              obtain ⟨d0, d1, d2, d3⟩ := h6.all
              have fz := h6.fz
              refine wpAnyH_ready (rs := [8]) (by kernel_rfl) (by simp) ?_
              refine AllReadyH.cons rfl (fun K hK => ?_) AllReadyH.nil
              go_simp
              have F : Below w2.heap.size w2 (st4 wx13 wx1.heap.size (cut a b)) ∧ Bx (st4 wx13 wx1.heap.size (cut a b)) w.heap.size a ∧ Bx (st4 wx13 wx1.heap.size (cut a b)) (w.heap.size + 1) b ∧ Below w.heap.size w (st4 wx13 wx1.heap.size (cut a b)) ∧ Bx (st4 wx13 wx1.heap.size (cut a b)) wx1.heap.size (cut a b) ∧ Bx (st4 wx13 wx1.heap.size (cut a b)) wx12.heap.size (rz) := ⟨below_st hHeld (Nat.le_of_not_lt l6) _, hA.st_other (fun e => l6 (by rw [← e]; exact lA)) _, hB.st_other (fun e => l6 (by rw [← e]; exact lB)) _, below_st hw (by omega) _, h6.st _, h7.st_other n67.symm _⟩
              refine hK.out _ _ F.1 (fun _ => ?_)
              clear hK K d0 d1 d2 d3 fz
              change wpAnyH _ _ _ _ _ _ _ _ (st4 wx13 wx1.heap.size (cut a b))
              clear hHeld hA hB hw h6 h7
              revert F
              generalize st4 wx13 wx1.heap.size (cut a b) = wx14
              rintro ⟨hHeld, hA, hB, hw, h6, h7⟩
              obtain ⟨d0, d1, d2, d3⟩ := h7.all
              have fz := h7.fz
              refine wpAnyH_ready (rs := [9]) (by kernel_rfl) (by simp) ?_
              refine AllReadyH.cons rfl (fun K hK => ?_) AllReadyH.nil
              go_simp
              have F : Below w2.heap.size w2 (st4 wx14 wx12.heap.size (cov a b)) ∧ Bx (st4 wx14 wx12.heap.size (cov a b)) w.heap.size a ∧ Bx (st4 wx14 wx12.heap.size (cov a b)) (w.heap.size + 1) b ∧ Below w.heap.size w (st4 wx14 wx12.heap.size (cov a b)) ∧ Bx (st4 wx14 wx12.heap.size (cov a b)) wx12.heap.size (cov a b) ∧ Bx (st4 wx14 wx12.heap.size (cov a b)) wx1.heap.size (cut a b) := ⟨below_st hHeld (Nat.le_of_not_lt l7) _, hA.st_other (fun e => l7 (by rw [← e]; exact lA)) _, hB.st_other (fun e => l7 (by rw [← e]; exact lB)) _, below_st hw (by omega) _, h7.st _, h6.st_other n67 _⟩
              refine hK.out _ _ F.1 (fun _ => ?_)
              clear hK K d0 d1 d2 d3 fz
              change wpAnyH _ _ _ _ _ _ _ _ (st4 wx14 wx12.heap.size (cov a b))
              clear hHeld hA hB hw h6 h7
              revert F
              generalize st4 wx14 wx12.heap.size (cov a b) = wx15
              rintro ⟨hHeld, hA, hB, hw, h7, h6⟩
              refine wpAnyH_done (by kernel_rfl) ?_ _
              go_wp2_with fail
              go_meet
              exact ⟨_, _, rfl, rfl, hA, hB, h6, h7, hw⟩
            refine AllReadyH.cons rfl (fun K hK => ?_) AllReadyH.nil
            go_simp
            have l7 : ¬ wx11.heap.size < w2.heap.size := Nat.not_lt.2 hHeld.size
            have n67 : wx1.heap.size ≠ wx11.heap.size := Nat.ne_of_lt h6.lt
            have F : Below w2.heap.size w2 (wx11.alloc (.cells #[.int .i64 0, .int .i64 0, .int .i64 0, .int .i64 0] 23)) ∧ Bx (wx11.alloc (.cells #[.int .i64 0, .int .i64 0, .int .i64 0, .int .i64 0] 23)) w.heap.size a ∧ Bx (wx11.alloc (.cells #[.int .i64 0, .int .i64 0, .int .i64 0, .int .i64 0] 23)) (w.heap.size + 1) b ∧ Below w.heap.size w (wx11.alloc (.cells #[.int .i64 0, .int .i64 0, .int .i64 0, .int .i64 0] 23)) ∧ Bx (wx11.alloc (.cells #[.int .i64 0, .int .i64 0, .int .i64 0, .int .i64 0] 23)) wx11.heap.size rz ∧ Bx (wx11.alloc (.cells #[.int .i64 0, .int .i64 0, .int .i64 0, .int .i64 0] 23)) wx1.heap.size rz := ⟨Below.on hHeld (below_new _ _), hA.on (below_new _ _), hB.on (below_new _ _), Below.on hw (below_new _ _), bx_new _ rz, h6.on (below_new _ _)⟩
            refine hK.out _ _ F.1 (fun _ => ?_)
            clear hK K hHeld hA hB hw h6
            revert F
            generalize wx11.alloc (.cells #[.int .i64 0, .int .i64 0, .int .i64 0, .int .i64 0] 23) = wx16
            rintro ⟨hHeld, hA, hB, hw, h7, h6⟩
            refine wpAnyH_ready (rs := [5]) (by kernel_rfl) (by simp) ?_
            refine AllReadyH.cons rfl (fun K hK => ?_) AllReadyH.nil
            go_simp
            go_wp2_with fail
            refine (D2.out _).mono ?_
            rintro e wx17 ⟨rfl, hb⟩
            replace hHeld := Below.on hHeld hb
            replace hA := hA.on hb
            replace hB := hB.on hb
            replace hw := Below.on hw hb
            replace h6 := h6.on hb
            replace h7 := h7.on hb
            refine hK.out _ _ hHeld (fun _ => ?_)
            clear hK K hb
            obtain ⟨d0, d1, d2, d3⟩ := h6.all
            have fz := h6.fz
            refine wpAnyH_ready (rs := [8]) (by kernel_rfl) (by simp) ?_
            refine AllReadyH.cons rfl (fun K hK => ?_) AllReadyH.nil
            go_simp
            have F : Below w2.heap.size w2 (st4 wx17 wx1.heap.size (cut a b)) ∧ Bx (st4 wx17 wx1.heap.size (cut a b)) w.heap.size a ∧ Bx (st4 wx17 wx1.heap.size (cut a b)) (w.heap.size + 1) b ∧ Below w.heap.size w (st4 wx17 wx1.heap.size (cut a b)) ∧ Bx (st4 wx17 wx1.heap.size (cut a b)) wx1.heap.size (cut a b) ∧ Bx (st4 wx17 wx1.heap.size (cut a b)) wx11.heap.size (rz) := ⟨below_st hHeld (Nat.le_of_not_lt l6) _, hA.st_other (fun e => l6 (by rw [← e]; exact lA)) _, hB.st_other (fun e => l6 (by rw [← e]; exact lB)) _, below_st hw (by omega) _, h6.st _, h7.st_other n67.symm _⟩
            refine hK.out _ _ F.1 (fun _ => ?_)
            clear hK K d0 d1 d2 d3 fz
            change wpAnyH _ _ _ _ _ _ _ _ (st4 wx17 wx1.heap.size (cut a b))
            clear hHeld hA hB hw h6 h7
            revert F
            generalize st4 wx17 wx1.heap.size (cut a b) = wx18
            rintro ⟨hHeld, hA, hB, hw, h6, h7⟩
            obtain ⟨d0, d1, d2, d3⟩ := h7.all
            have fz := h7.fz
            refine wpAnyH_ready (rs := [9]) (by kernel_rfl) (by simp) ?_
            refine AllReadyH.cons rfl (fun K hK => ?_) AllReadyH.nil
            go_simp
            have F : Below w2.heap.size w2 (st4 wx18 wx11.heap.size (cov a b)) ∧ Bx (st4 wx18 wx11.heap.size (cov a b)) w.heap.size a ∧ Bx (st4 wx18 wx11.heap.size (cov a b)) (w.heap.size + 1) b ∧ Below w.heap.size w (st4 wx18 wx11.heap.size (cov a b)) ∧ Bx (st4 wx18 wx11.heap.size (cov a b)) wx11.heap.size (cov a b) ∧ Bx (st4 wx18 wx11.heap.size (cov a b)) wx1.heap.size (cut a b) := ⟨below_st hHeld (Nat.le_of_not_lt l7) _, hA.st_other (fun e => l7 (by rw [← e]; exact lA)) _, hB.st_other (fun e => l7 (by rw [← e]; exact lB)) _, below_st hw (by omega) _, h7.st _, h6.st_other n67 _⟩
            refine hK.out _ _ F.1 (fun _ => ?_)
            clear hK K d0 d1 d2 d3 fz
            change wpAnyH _ _ _ _ _ _ _ _ (st4 wx18 wx11.heap.size (cov a b))
            clear hHeld hA hB hw h6 h7
            revert F
            generalize st4 wx18 wx11.heap.size (cov a b) = wx19
            rintro ⟨hHeld, hA, hB, hw, h7, h6⟩
            refine wpAnyH_done (by kernel_rfl) ?_ _
            go_wp2_with fail
            go_meet
            exact ⟨_, _, rfl, rfl, hA, hB, h6, h7, hw⟩
          refine AllReadyH.cons rfl (fun K hK => ?_) AllReadyH.nil
          go_simp
          have l7 : ¬ wx1.heap.size < w2.heap.size := Nat.not_lt.2 hHeld.size
          have F : Below w2.heap.size w2 (wx1.alloc (.cells #[.int .i64 0, .int .i64 0, .int .i64 0, .int .i64 0] 23)) ∧ Bx (wx1.alloc (.cells #[.int .i64 0, .int .i64 0, .int .i64 0, .int .i64 0] 23)) w.heap.size a ∧ Bx (wx1.alloc (.cells #[.int .i64 0, .int .i64 0, .int .i64 0, .int .i64 0] 23)) (w.heap.size + 1) b ∧ Below w.heap.size w (wx1.alloc (.cells #[.int .i64 0, .int .i64 0, .int .i64 0, .int .i64 0] 23)) ∧ Bx (wx1.alloc (.cells #[.int .i64 0, .int .i64 0, .int .i64 0, .int .i64 0] 23)) wx1.heap.size rz := ⟨Below.on hHeld (below_new _ _), hA.on (below_new _ _), hB.on (below_new _ _), Below.on hw (below_new _ _), bx_new _ rz⟩
          refine hK.out _ _ F.1 (fun _ => ?_)
          clear hK K hHeld hA hB hw
          revert F
          generalize wx1.alloc (.cells #[.int .i64 0, .int .i64 0, .int .i64 0, .int .i64 0] 23) = wx20
          rintro ⟨hHeld, hA, hB, hw, h7⟩
          refine wpAnyH_ready (rs := [5, 6]) (by kernel_rfl) (by simp) ?_
          refine AllReadyH.cons rfl (fun K hK => ?_) ?_
          · go_simp
            go_wp2_with fail
            refine (D2.out _).mono ?_
            rintro e wx21 ⟨rfl, hb⟩
            replace hHeld := Below.on hHeld hb
            replace hA := hA.on hb
            replace hB := hB.on hb
            replace hw := Below.on hw hb
            replace h7 := h7.on hb
            refine hK.out _ _ hHeld (fun _ => ?_)
            clear hK K hb
            refine wpAnyH_ready (rs := [6]) (by kernel_rfl) (by simp) ?_
            refine AllReadyH.cons rfl (fun K hK => ?_) AllReadyH.nil
            go_simp
            have l6 : ¬ wx21.heap.size < w2.heap.size := Nat.not_lt.2 hHeld.size
            have n67 : wx21.heap.size ≠ wx1.heap.size := Nat.ne_of_gt h7.lt
            have F : Below w2.heap.size w2 (wx21.alloc (.cells #[.int .i64 0, .int .i64 0, .int .i64 0, .int .i64 0] 23)) ∧ Bx (wx21.alloc (.cells #[.int .i64 0, .int .i64 0, .int .i64 0, .int .i64 0] 23)) w.heap.size a ∧ Bx (wx21.alloc (.cells #[.int .i64 0, .int .i64 0, .int .i64 0, .int .i64 0] 23)) (w.heap.size + 1) b ∧ Below w.heap.size w (wx21.alloc (.cells #[.int .i64 0, .int .i64 0, .int .i64 0, .int .i64 0] 23)) ∧ Bx (wx21.alloc (.cells #[.int .i64 0, .int .i64 0, .int .i64 0, .int .i64 0] 23)) wx21.heap.size rz ∧ Bx (wx21.alloc (.cells #[.int .i64 0, .int .i64 0, .int .i64 0, .int .i64 0] 23)) wx1.heap.size rz := ⟨Below.on hHeld (below_new _ _), hA.on (below_new _ _), hB.on (below_new _ _), Below.on hw (below_new _ _), bx_new _ rz, h7.on (below_new _ _)⟩
            refine hK.out _ _ F.1 (fun _ => ?_)
            clear hK K hHeld hA hB hw h7
            revert F
            generalize wx21.alloc (.cells #[.int .i64 0, .int .i64 0, .int .i64 0, .int .i64 0] 23) = wx22
            rintro ⟨hHeld, hA, hB, hw, h6, h7⟩
            obtain ⟨d0, d1, d2, d3⟩ := h6.all
            have fz := h6.fz
            refine wpAnyH_ready (rs := [8]) (by kernel_rfl) (by simp) ?_
            refine AllReadyH.cons rfl (fun K hK => ?_) AllReadyH.nil
            go_simp
            have F : Below w2.heap.size w2 (st4 wx22 wx21.heap.size (cut a b)) ∧ Bx (st4 wx22 wx21.heap.size (cut a b)) w.heap.size a ∧ Bx (st4 wx22 wx21.heap.size (cut a b)) (w.heap.size + 1) b ∧ Below w.heap.size w (st4 wx22 wx21.heap.size (cut a b)) ∧ Bx (st4 wx22 wx21.heap.size (cut a b)) wx21.heap.size (cut a b) ∧ Bx (st4 wx22 wx21.heap.size (cut a b)) wx1.heap.size (rz) := ⟨below_st hHeld (Nat.le_of_not_lt l6) _, hA.st_other (fun e => l6 (by rw [← e]; exact lA)) _, hB.st_other (fun e => l6 (by rw [← e]; exact lB)) _, below_st hw (by omega) _, h6.st _, h7.st_other n67.symm _⟩
            refine hK.out _ _ F.1 (fun _ => ?_)
            clear hK K d0 d1 d2 d3 fz
            change wpAnyH _ _ _ _ _ _ _ _ (st4 wx22 wx21.heap.size (cut a b))
            clear hHeld hA hB hw h6 h7
            revert F
            generalize st4 wx22 wx21.heap.size (cut a b) = wx23
            rintro ⟨hHeld, hA, hB, hw, h6, h7⟩
            obtain ⟨d0, d1, d2, d3⟩ := h7.all
            have fz := h7.fz
            refine wpAnyH_ready (rs := [9]) (by kernel_rfl) (by simp) ?_
            refine AllReadyH.cons rfl (fun K hK => ?_) AllReadyH.nil
            go_simp
            have F : Below w2.heap.size w2 (st4 wx23 wx1.heap.size (cov a b)) ∧ Bx (st4 wx23 wx1.heap.size (cov a b)) w.heap.size a ∧ Bx (st4 wx23 wx1.heap.size (cov a b)) (w.heap.size + 1) b ∧ Below w.heap.size w (st4 wx23 wx1.heap.size (cov a b)) ∧ Bx (st4 wx23 wx1.heap.size (cov a b)) wx1.heap.size (cov a b) ∧ Bx (st4 wx23 wx1.heap.size (cov a b)) wx21.heap.size (cut a b) := ⟨below_st hHeld (Nat.le_of_not_lt l7) _, hA.st_other (fun e => l7 (by rw [← e]; exact lA)) _, hB.st_other (fun e => l7 (by rw [← e]; exact lB)) _, below_st hw (by omega) _, h7.st _, h6.st_other n67 _⟩
            refine hK.out _ _ F.1 (fun _ => ?_)
            clear hK K d0 d1 d2 d3 fz
            change wpAnyH _ _ _ _ _ _ _ _ (st4 wx23 wx1.heap.size (cov a b))
            clear hHeld hA hB hw h6 h7
            revert F
            generalize st4 wx23 wx1.heap.size (cov a b) = wx24
            rintro ⟨hHeld, hA, hB, hw, h7, h6⟩
            refine wpAnyH_done (by kernel_rfl) ?_ _
            go_wp2_with fail
            go_meet
            exact ⟨_, _, rfl, rfl, hA, hB, h6, h7, hw⟩
          refine AllReadyH.cons rfl (fun K hK => ?_) AllReadyH.nil
          go_simp
          have l6 : ¬ wx20.heap.size < w2.heap.size := Nat.not_lt.2 hHeld.size
          have n67 : wx20.heap.size ≠ wx1.heap.size := Nat.ne_of_gt h7.lt
          have F : Below w2.heap.size w2 (wx20.alloc (.cells #[.int .i64 0, .int .i64 0, .int .i64 0, .int .i64 0] 23)) ∧ Bx (wx20.alloc (.cells #[.int .i64 0, .int .i64 0, .int .i64 0, .int .i64 0] 23)) w.heap.size a ∧ Bx (wx20.alloc (.cells #[.int .i64 0, .int .i64 0, .int .i64 0, .int .i64 0] 23)) (w.heap.size + 1) b ∧ Below w.heap.size w (wx20.alloc (.cells #[.int .i64 0, .int .i64 0, .int .i64 0, .int .i64 0] 23)) ∧ Bx (wx20.alloc (.cells #[.int .i64 0, .int .i64 0, .int .i64 0, .int .i64 0] 23)) wx20.heap.size rz ∧ Bx (wx20.alloc (.cells #[.int .i64 0, .int .i64 0, .int .i64 0, .int .i64 0] 23)) wx1.heap.size rz := ⟨Below.on hHeld (below_new _ _), hA.on (below_new _ _), hB.on (below_new _ _), Below.on hw (below_new _ _), bx_new _ rz, h7.on (below_new _ _)⟩
          refine hK.out _ _ F.1 (fun _ => ?_)
          clear hK K hHeld hA hB hw h7
          revert F
          generalize wx20.alloc (.cells #[.int .i64 0, .int .i64 0, .int .i64 0, .int .i64 0] 23) = wx25
          rintro ⟨hHeld, hA, hB, hw, h6, h7⟩
          refine wpAnyH_ready (rs := [5]) (by kernel_rfl) (by simp) ?_
          refine AllReadyH.cons rfl (fun K hK => ?_) AllReadyH.nil
          go_simp
          go_wp2_with fail
          refine (D2.out _).mono ?_
          rintro e wx26 ⟨rfl, hb⟩
          replace hHeld := Below.on hHeld hb
          replace hA := hA.on hb
          replace hB := hB.on hb
          replace hw := Below.on hw hb
          replace h6 := h6.on hb
          replace h7 := h7.on hb
          refine hK.out _ _ hHeld (fun _ => ?_)
          clear hK K hb
          obtain ⟨d0, d1, d2, d3⟩ := h6.all
          have fz := h6.fz
          refine wpAnyH_ready (rs := [8]) (by kernel_rfl) (by simp) ?_
          refine AllReadyH.cons rfl (fun K hK => ?_) AllReadyH.nil
          go_simp
          have F : Below w2.heap.size w2 (st4 wx26 wx20.heap.size (cut a b)) ∧ Bx (st4 wx26 wx20.heap.size (cut a b)) w.heap.size a ∧ Bx (st4 wx26 wx20.heap.size (cut a b)) (w.heap.size + 1) b ∧ Below w.heap.size w (st4 wx26 wx20.heap.size (cut a b)) ∧ Bx (st4 wx26 wx20.heap.size (cut a b)) wx20.heap.size (cut a b) ∧ Bx (st4 wx26 wx20.heap.size (cut a b)) wx1.heap.size (rz) := ⟨below_st hHeld (Nat.le_of_not_lt l6) _, hA.st_other (fun e => l6 (by rw [← e]; exact lA)) _, hB.st_other (fun e => l6 (by rw [← e]; exact lB)) _, below_st hw (by omega) _, h6.st _, h7.st_other n67.symm _⟩
          refine hK.out _ _ F.1 (fun _ => ?_)
          clear hK K d0 d1 d2 d3 fz
          change wpAnyH _ _ _ _ _ _ _ _ (st4 wx26 wx20.heap.size (cut a b))
          clear hHeld hA hB hw h6 h7
          revert F
          generalize st4 wx26 wx20.heap.size (cut a b) = wx27
          rintro ⟨hHeld, hA, hB, hw, h6, h7⟩
          obtain ⟨d0, d1, d2, d3⟩ := h7.all
          have fz := h7.fz
          refine wpAnyH_ready (rs := [9]) (by kernel_rfl) (by simp) ?_
          refine AllReadyH.cons rfl (fun K hK => ?_) AllReadyH.nil
          go_simp
          have F : Below w2.heap.size w2 (st4 wx27 wx1.heap.size (cov a b)) ∧ Bx (st4 wx27 wx1.heap.size (cov a b)) w.heap.size a ∧ Bx (st4 wx27 wx1.heap.size (cov a b)) (w.heap.size + 1) b ∧ Below w.heap.size w (st4 wx27 wx1.heap.size (cov a b)) ∧ Bx (st4 wx27 wx1.heap.size (cov a b)) wx1.heap.size (cov a b) ∧ Bx (st4 wx27 wx1.heap.size (cov a b)) wx20.heap.size (cut a b) := ⟨below_st hHeld (Nat.le_of_not_lt l7) _, hA.st_other (fun e => l7 (by rw [← e]; exact lA)) _, hB.st_other (fun e => l7 (by rw [← e]; exact lB)) _, below_st hw (by omega) _, h7.st _, h6.st_other n67 _⟩
          refine hK.out _ _ F.1 (fun _ => ?_)
          clear hK K d0 d1 d2 d3 fz
          change wpAnyH _ _ _ _ _ _ _ _ (st4 wx27 wx1.heap.size (cov a b))
          clear hHeld hA hB hw h6 h7
          revert F
          generalize st4 wx27 wx1.heap.size (cov a b) = wx28
          rintro ⟨hHeld, hA, hB, hw, h7, h6⟩
          refine wpAnyH_done (by kernel_rfl) ?_ _
          go_wp2_with fail
          go_meet
          exact ⟨_, _, rfl, rfl, hA, hB, h6, h7, hw⟩
        refine AllReadyH.cons rfl (fun K hK => ?_) ?_
        · go_simp
          have l6 : ¬ wd.heap.size < w2.heap.size := Nat.not_lt.2 hHeld.size
          have F : Below w2.heap.size w2 (wd.alloc (.cells #[.int .i64 0, .int .i64 0, .int .i64 0, .int .i64 0] 23)) ∧ Bx (wd.alloc (.cells #[.int .i64 0, .int .i64 0, .int .i64 0, .int .i64 0] 23)) w.heap.size a ∧ Bx (wd.alloc (.cells #[.int .i64 0, .int .i64 0, .int .i64 0, .int .i64 0] 23)) (w.heap.size + 1) b ∧ Below w.heap.size w (wd.alloc (.cells #[.int .i64 0, .int .i64 0, .int .i64 0, .int .i64 0] 23)) ∧ Bx (wd.alloc (.cells #[.int .i64 0, .int .i64 0, .int .i64 0, .int .i64 0] 23)) wd.heap.size rz := ⟨Below.on hHeld (below_new _ _), hA.on (below_new _ _), hB.on (below_new _ _), Below.on hw (below_new _ _), bx_new _ rz⟩
          refine hK.out _ _ F.1 (fun _ => ?_)
          clear hK K hHeld hA hB hw
          revert F
          generalize wd.alloc (.cells #[.int .i64 0, .int .i64 0, .int .i64 0, .int .i64 0] 23) = wx29
          rintro ⟨hHeld, hA, hB, hw, h6⟩
          refine wpAnyH_ready (rs := [2, 7]) (by kernel_rfl) (by simp) ?_
          refine AllReadyH.cons rfl (fun K hK => ?_) ?_
          · go_simp
            go_wp2_with fail
            refine (D1.out _).mono ?_
            rintro e wx30 ⟨rfl, hb⟩
            replace hHeld := Below.on hHeld hb
            replace hA := hA.on hb
            replace hB := hB.on hb
            replace hw := Below.on hw hb
            replace h6 := h6.on hb
            refine hK.out _ _ hHeld (fun _ => ?_)
            clear hK K hb
            refine wpAnyH_ready (rs := [5, 7]) (by kernel_rfl) (by simp) ?_
            refine AllReadyH.cons rfl (fun K hK => ?_) ?_
            · go_simp
              go_wp2_with fail
              refine (D2.out _).mono ?_
              rintro e wx31 ⟨rfl, hb⟩
              replace hHeld := Below.on hHeld hb
              replace hA := hA.on hb
              replace hB := hB.on hb
              replace hw := Below.on hw hb
              replace h6 := h6.on hb
              refine hK.out _ _ hHeld (fun _ => ?_)
              clear hK K hb
              refine wpAnyH_ready (rs := [7]) (by kernel_rfl) (by simp) ?_
              refine AllReadyH.cons rfl (fun K hK => ?_) AllReadyH.nil
              go_simp
              have l7 : ¬ wx31.heap.size < w2.heap.size := Nat.not_lt.2 hHeld.size
              have n67 : wd.heap.size ≠ wx31.heap.size := Nat.ne_of_lt h6.lt
              have F : Below w2.heap.size w2 (wx31.alloc (.cells #[.int .i64 0, .int .i64 0, .int .i64 0, .int .i64 0] 23)) ∧ Bx (wx31.alloc (.cells #[.int .i64 0, .int .i64 0, .int .i64 0, .int .i64 0] 23)) w.heap.size a ∧ Bx (wx31.alloc (.cells #[.int .i64 0, .int .i64 0, .int .i64 0, .int .i64 0] 23)) (w.heap.size + 1) b ∧ Below w.heap.size w (wx31.alloc (.cells #[.int .i64 0, .int .i64 0, .int .i64 0, .int .i64 0] 23)) ∧ Bx (wx31.alloc (.cells #[.int .i64 0, .int .i64 0, .int .i64 0, .int .i64 0] 23)) wx31.heap.size rz ∧ Bx (wx31.alloc (.cells #[.int .i64 0, .int .i64 0, .int .i64 0, .int .i64 0] 23)) wd.heap.size rz := ⟨Below.on hHeld (below_new _ _), hA.on (below_new _ _), hB.on (below_new _ _), Below.on hw (below_new _ _), bx_new _ rz, h6.on (below_new _ _)⟩
              refine hK.out _ _ F.1 (fun _ => ?_)
              clear hK K hHeld hA hB hw h6
              revert F
              generalize wx31.alloc (.cells #[.int .i64 0, .int .i64 0, .int .i64 0, .int .i64 0] 23) = wx32
              rintro ⟨hHeld, hA, hB, hw, h7, h6⟩
              obtain ⟨d0, d1, d2, d3⟩ := h6.all
              have fz := h6.fz
              refine wpAnyH_ready (rs := [8]) (by kernel_rfl) (by simp) ?_
              refine AllReadyH.cons rfl (fun K hK => ?_) AllReadyH.nil
              go_simp
              have F : Below w2.heap.size w2 (st4 wx32 wd.heap.size (cut a b)) ∧ Bx (st4 wx32 wd.heap.size (cut a b)) w.heap.size a ∧ Bx (st4 wx32 wd.heap.size (cut a b)) (w.heap.size + 1) b ∧ Below w.heap.size w (st4 wx32 wd.heap.size (cut a b)) ∧ Bx (st4 wx32 wd.heap.size (cut a b)) wd.heap.size (cut a b) ∧ Bx (st4 wx32 wd.heap.size (cut a b)) wx31.heap.size (rz) := ⟨below_st hHeld (Nat.le_of_not_lt l6) _, hA.st_other (fun e => l6 (by rw [← e]; exact lA)) _, hB.st_other (fun e => l6 (by rw [← e]; exact lB)) _, below_st hw (by omega) _, h6.st _, h7.st_other n67.symm _⟩
              refine hK.out _ _ F.1 (fun _ => ?_)
              clear hK K d0 d1 d2 d3 fz
              change wpAnyH _ _ _ _ _ _ _ _ (st4 wx32 wd.heap.size (cut a b))
              clear hHeld hA hB hw h6 h7
              revert F
              generalize st4 wx32 wd.heap.size (cut a b) = wx33
              rintro ⟨hHeld, hA, hB, hw, h6, h7⟩
              obtain ⟨d0, d1, d2, d3⟩ := h7.all
              have fz := h7.fz
              refine wpAnyH_ready (rs := [9]) (by kernel_rfl) (by simp) ?_
              refine AllReadyH.cons rfl (fun K hK => ?_) AllReadyH.nil
              go_simp
              have F : Below w2.heap.size w2 (st4 wx33 wx31.heap.size (cov a b)) ∧ Bx (st4 wx33 wx31.heap.size (cov a b)) w.heap.size a ∧ Bx (st4 wx33 wx31.heap.size (cov a b)) (w.heap.size + 1) b ∧ Below w.heap.size w (st4 wx33 wx31.heap.size (cov a b)) ∧ Bx (st4 wx33 wx31.heap.size (cov a b)) wx31.heap.size (cov a b) ∧ Bx (st4 wx33 wx31.heap.size (cov a b)) wd.heap.size (cut a b) := ⟨below_st hHeld (Nat.le_of_not_lt l7) _, hA.st_other (fun e => l7 (by rw [← e]; exact lA)) _, hB.st_other (fun e => l7 (by rw [← e]; exact lB)) _, below_st hw (by omega) _, h7.st _, h6.st_other n67 _⟩
              refine hK.out _ _ F.1 (fun _ => ?_)
              clear hK K d0 d1 d2 d3 fz
              change wpAnyH _ _ _ _ _ _ _ _ (st4 wx33 wx31.heap.size (cov a b))
              clear hHeld hA hB hw h6 h7
              revert F
              generalize st4 wx33 wx31.heap.size (cov a b) = wx34
              rintro ⟨hHeld, hA, hB, hw, h7, h6⟩
              refine wpAnyH_done (by kernel_rfl) ?_ _
              go_wp2_with fail
              go_meet
              exact ⟨_, _, rfl, rfl, hA, hB, h6, h7, hw⟩
            refine AllReadyH.cons rfl (fun K hK => ?_) AllReadyH.nil
            go_simp
            have l7 : ¬ wx30.heap.size < w2.heap.size := Nat.not_lt.2 hHeld.size
            have n67 : wd.heap.size ≠ wx30.heap.size := Nat.ne_of_lt h6.lt
            have F : Below w2.heap.size w2 (wx30.alloc (.cells #[.int .i64 0, .int .i64 0, .int .i64 0, .int .i64 0] 23)) ∧ Bx (wx30.alloc (.cells #[.int .i64 0, .int .i64 0, .int .i64 0, .int .i64 0] 23)) w.heap.size a ∧ Bx (wx30.alloc (.cells #[.int .i64 0, .int .i64 0, .int .i64 0, .int .i64 0] 23)) (w.heap.size + 1) b ∧ Below w.heap.size w (wx30.alloc (.cells #[.int .i64 0, .int .i64 0, .int .i64 0, .int .i64 0] 23)) ∧ Bx (wx30.alloc (.cells #[.int .i64 0, .int .i64 0, .int .i64 0, .int .i64 0] 23)) wx30.heap.size rz ∧ Bx (wx30.alloc (.cells #[.int .i64 0, .int .i64 0, .int .i64 0, .int .i64 0] 23)) wd.heap.size rz := ⟨Below.on hHeld (below_new _ _), hA.on (below_new _ _), hB.on (below_new _ _), Below.on hw (below_new _ _), bx_new _ rz, h6.on (below_new _ _)⟩
            refine hK.out _ _ F.1 (fun _ => ?_)
            clear hK K hHeld hA hB hw h6
            revert F
            generalize wx30.alloc (.cells #[.int .i64 0, .int .i64 0, .int .i64 0, .int .i64 0] 23) = wx35
            rintro ⟨hHeld, hA, hB, hw, h7, h6⟩
            refine wpAnyH_ready (rs := [5]) (by kernel_rfl) (by simp) ?_
            refine AllReadyH.cons rfl (fun K hK => ?_) AllReadyH.nil
            go_simp
            go_wp2_with fail
            refine (D2.out _).mono ?_
            rintro e wx36 ⟨rfl, hb⟩
            replace hHeld := Below.on hHeld hb
            replace hA := hA.on hb
            replace hB := hB.on hb
            replace hw := Below.on hw hb
            replace h6 := h6.on hb
            replace h7 := h7.on hb
            refine hK.out _ _ hHeld (fun _ => ?_)
            clear hK K hb
            obtain ⟨d0, d1, d2, d3⟩ := h6.all
            have fz := h6.fz
            refine wpAnyH_ready (rs := [8]) (by kernel_rfl) (by simp) ?_
            refine AllReadyH.cons rfl (fun K hK => ?_) AllReadyH.nil
            go_simp
            have F : Below w2.heap.size w2 (st4 wx36 wd.heap.size (cut a b)) ∧ Bx (st4 wx36 wd.heap.size (cut a b)) w.heap.size a ∧ Bx (st4 wx36 wd.heap.size (cut a b)) (w.heap.size + 1) b ∧ Below w.heap.size w (st4 wx36 wd.heap.size (cut a b)) ∧ Bx (st4 wx36 wd.heap.size (cut a b)) wd.heap.size (cut a b) ∧ Bx (st4 wx36 wd.heap.size (cut a b)) wx30.heap.size (rz) := ⟨below_st hHeld (Nat.le_of_not_lt l6) _, hA.st_other (fun e => l6 (by rw [← e]; exact lA)) _, hB.st_other (fun e => l6 (by rw [← e]; exact lB)) _, below_st hw (by omega) _, h6.st _, h7.st_other n67.symm _⟩
            refine hK.out _ _ F.1 (fun _ => ?_)
            clear hK K d0 d1 d2 d3 fz
            change wpAnyH _ _ _ _ _ _ _ _ (st4 wx36 wd.heap.size (cut a b))
            clear hHeld hA hB hw h6 h7
            revert F
            generalize st4 wx36 wd.heap.size (cut a b) = wx37
            rintro ⟨hHeld, hA, hB, hw, h6, h7⟩
            obtain ⟨d0, d1, d2, d3⟩ := h7.all
            have fz := h7.fz
            refine wpAnyH_ready (rs := [9]) (by kernel_rfl) (by simp) ?_
            refine AllReadyH.cons rfl (fun K hK => ?_) AllReadyH.nil
            go_simp
            have F : Below w2.heap.size w2 (st4 wx37 wx30.heap.size (cov a b)) ∧ Bx (st4 wx37 wx30.heap.size (cov a b)) w.heap.size a ∧ Bx (st4 wx37 wx30.heap.size (cov a b)) (w.heap.size + 1) b ∧ Below w.heap.size w (st4 wx37 wx30.heap.size (cov a b)) ∧ Bx (st4 wx37 wx30.heap.size (cov a b)) wx30.heap.size (cov a b) ∧ Bx (st4 wx37 wx30.heap.size (cov a b)) wd.heap.size (cut a b) := ⟨below_st hHeld (Nat.le_of_not_lt l7) _, hA.st_other (fun e => l7 (by rw [← e]; exact lA)) _, hB.st_other (fun e => l7 (by rw [← e]; exact lB)) _, below_st hw (by omega) _, h7.st _, h6.st_other n67 _⟩
            refine hK.out _ _ F.1 (fun _ => ?_)
            clear hK K d0 d1 d2 d3 fz
            change wpAnyH _ _ _ _ _ _ _ _ (st4 wx37 wx30.heap.size (cov a b))
            clear hHeld hA hB hw h6 h7
            revert F
            generalize st4 wx37 wx30.heap.size (cov a b) = wx38
            rintro ⟨hHeld, hA, hB, hw, h7, h6⟩
            refine wpAnyH_done (by kernel_rfl) ?_ _
            go_wp2_with fail
            go_meet
            exact ⟨_, _, rfl, rfl, hA, hB, h6, h7, hw⟩
          refine AllReadyH.cons rfl (fun K hK => ?_) AllReadyH.nil
          go_simp
          have l7 : ¬ wx29.heap.size < w2.heap.size := Nat.not_lt.2 hHeld.size
          have n67 : wd.heap.size ≠ wx29.heap.size := Nat.ne_of_lt h6.lt
          have F : Below w2.heap.size w2 (wx29.alloc (.cells #[.int .i64 0, .int .i64 0, .int .i64 0, .int .i64 0] 23)) ∧ Bx (wx29.alloc (.cells #[.int .i64 0, .int .i64 0, .int .i64 0, .int .i64 0] 23)) w.heap.size a ∧ Bx (wx29.alloc (.cells #[.int .i64 0, .int .i64 0, .int .i64 0, .int .i64 0] 23)) (w.heap.size + 1) b ∧ Below w.heap.size w (wx29.alloc (.cells #[.int .i64 0, .int .i64 0, .int .i64 0, .int .i64 0] 23)) ∧ Bx (wx29.alloc (.cells #[.int .i64 0, .int .i64 0, .int .i64 0, .int .i64 0] 23)) wx29.heap.size rz ∧ Bx (wx29.alloc (.cells #[.int .i64 0, .int .i64 0, .int .i64 0, .int .i64 0] 23)) wd.heap.size rz := ⟨Below.on hHeld (below_new _ _), hA.on (below_new _ _), hB.on (below_new _ _), Below.on hw (below_new _ _), bx_new _ rz, h6.on (below_new _ _)⟩
          refine hK.out _ _ F.1 (fun _ => ?_)
          clear hK K hHeld hA hB hw h6
          revert F
          generalize wx29.alloc (.cells #[.int .i64 0, .int .i64 0, .int .i64 0, .int .i64 0] 23) = wx39
          rintro ⟨hHeld, hA, hB, hw, h7, h6⟩
          refine wpAnyH_ready (rs := [2]) (by kernel_rfl) (by simp) ?_
          refine AllReadyH.cons rfl (fun K hK => ?_) AllReadyH.nil
          go_simp
          go_wp2_with fail
          refine (D1.out _).mono ?_
          rintro e wx40 ⟨rfl, hb⟩
          replace hHeld := Below.on hHeld hb
          replace hA := hA.on hb
          replace hB := hB.on hb
          replace hw := Below.on hw hb
          replace h6 := h6.on hb
          replace h7 := h7.on hb
          refine hK.out _ _ hHeld (fun _ => ?_)
          clear hK K hb
          refine wpAnyH_ready (rs := [5]) (by kernel_rfl) (by simp) ?_
          refine AllReadyH.cons rfl (fun K hK => ?_) AllReadyH.nil
          go_simp
          go_wp2_with fail
          refine (D2.out _).mono ?_
          rintro e wx41 ⟨rfl, hb⟩
          replace hHeld := Below.on hHeld hb
          replace hA := hA.on hb
          replace hB := hB.on hb
          replace hw := Below.on hw hb
          replace h6 := h6.on hb
          replace h7 := h7.on hb
          refine hK.out _ _ hHeld (fun _ => ?_)
          clear hK K hb
          obtain ⟨d0, d1, d2, d3⟩ := h6.all
          have fz := h6.fz
          refine wpAnyH_ready (rs := [8]) (by kernel_rfl) (by simp) ?_
          refine AllReadyH.cons rfl (fun K hK => ?_) AllReadyH.nil
          go_simp
          have F : Below w2.heap.size w2 (st4 wx41 wd.heap.size (cut a b)) ∧ Bx (st4 wx41 wd.heap.size (cut a b)) w.heap.size a ∧ Bx (st4 wx41 wd.heap.size (cut a b)) (w.heap.size + 1) b ∧ Below w.heap.size w (st4 wx41 wd.heap.size (cut a b)) ∧ Bx (st4 wx41 wd.heap.size (cut a b)) wd.heap.size (cut a b) ∧ Bx (st4 wx41 wd.heap.size (cut a b)) wx29.heap.size (rz) := ⟨below_st hHeld (Nat.le_of_not_lt l6) _, hA.st_other (fun e => l6 (by rw [← e]; exact lA)) _, hB.st_other (fun e => l6 (by rw [← e]; exact lB)) _, below_st hw (by omega) _, h6.st _, h7.st_other n67.symm _⟩
          refine hK.out _ _ F.1 (fun _ => ?_)
          clear hK K d0 d1 d2 d3 fz
          change wpAnyH _ _ _ _ _ _ _ _ (st4 wx41 wd.heap.size (cut a b))
          clear hHeld hA hB hw h6 h7
          revert F
          generalize st4 wx41 wd.heap.size (cut a b) = wx42
          rintro ⟨hHeld, hA, hB, hw, h6, h7⟩
          obtain ⟨d0, d1, d2, d3⟩ := h7.all
          have fz := h7.fz
          refine wpAnyH_ready (rs := [9]) (by kernel_rfl) (by simp) ?_
          refine AllReadyH.cons rfl (fun K hK => ?_) AllReadyH.nil
          go_simp
          have F : Below w2.heap.size w2 (st4 wx42 wx29.heap.size (cov a b)) ∧ Bx (st4 wx42 wx29.heap.size (cov a b)) w.heap.size a ∧ Bx (st4 wx42 wx29.heap.size (cov a b)) (w.heap.size + 1) b ∧ Below w.heap.size w (st4 wx42 wx29.heap.size (cov a b)) ∧ Bx (st4 wx42 wx29.heap.size (cov a b)) wx29.heap.size (cov a b) ∧ Bx (st4 wx42 wx29.heap.size (cov a b)) wd.heap.size (cut a b) := ⟨below_st hHeld (Nat.le_of_not_lt l7) _, hA.st_other (fun e => l7 (by rw [← e]; exact lA)) _, hB.st_other (fun e => l7 (by rw [← e]; exact lB)) _, below_st hw (by omega) _, h7.st _, h6.st_other n67 _⟩
          refine hK.out _ _ F.1 (fun _ => ?_)
          clear hK K d0 d1 d2 d3 fz
          change wpAnyH _ _ _ _ _ _ _ _ (st4 wx42 wx29.heap.size (cov a b))
          clear hHeld hA hB hw h6 h7
          revert F
          generalize st4 wx42 wx29.heap.size (cov a b) = wx43
          rintro ⟨hHeld, hA, hB, hw, h7, h6⟩
          refine wpAnyH_done (by kernel_rfl) ?_ _
          go_wp2_with fail
          go_meet
          exact ⟨_, _, rfl, rfl, hA, hB, h6, h7, hw⟩
        refine AllReadyH.cons rfl (fun K hK => ?_) AllReadyH.nil
        go_simp
        have l7 : ¬ wd.heap.size < w2.heap.size := Nat.not_lt.2 hHeld.size
        have F : Below w2.heap.size w2 (wd.alloc (.cells #[.int .i64 0, .int .i64 0, .int .i64 0, .int .i64 0] 23)) ∧ Bx (wd.alloc (.cells #[.int .i64 0, .int .i64 0, .int .i64 0, .int .i64 0] 23)) w.heap.size a ∧ Bx (wd.alloc (.cells #[.int .i64 0, .int .i64 0, .int .i64 0, .int .i64 0] 23)) (w.heap.size + 1) b ∧ Below w.heap.size w (wd.alloc (.cells #[.int .i64 0, .int .i64 0, .int .i64 0, .int .i64 0] 23)) ∧ Bx (wd.alloc (.cells #[.int .i64 0, .int .i64 0, .int .i64 0, .int .i64 0] 23)) wd.heap.size rz := ⟨Below.on hHeld (below_new _ _), hA.on (below_new _ _), hB.on (below_new _ _), Below.on hw (below_new _ _), bx_new _ rz⟩
        refine hK.out _ _ F.1 (fun _ => ?_)
        clear hK K hHeld hA hB hw
        revert F
        generalize wd.alloc (.cells #[.int .i64 0, .int .i64 0, .int .i64 0, .int .i64 0] 23) = wx44
        rintro ⟨hHeld, hA, hB, hw, h7⟩
        refine wpAnyH_ready (rs := [2, 6]) (by kernel_rfl) (by simp) ?_
        refine AllReadyH.cons rfl (fun K hK => ?_) ?_
        · go_simp
          go_wp2_with fail
          refine (D1.out _).mono ?_
          rintro e wx45 ⟨rfl, hb⟩
          replace hHeld := Below.on hHeld hb
          replace hA := hA.on hb
          replace hB := hB.on hb
          replace hw := Below.on hw hb
          replace h7 := h7.on hb
          refine hK.out _ _ hHeld (fun _ => ?_)
          clear hK K hb
          refine wpAnyH_ready (rs := [5, 6]) (by kernel_rfl) (by simp) ?_
          refine AllReadyH.cons rfl (fun K hK => ?_) ?_
          · go_simp
            go_wp2_with fail
            refine (D2.out _).mono ?_
            rintro e wx46 ⟨rfl, hb⟩
            replace hHeld := Below.on hHeld hb
            replace hA := hA.on hb
            replace hB := hB.on hb
            replace hw := Below.on hw hb
            replace h7 := h7.on hb
            refine hK.out _ _ hHeld (fun _ => ?_)
            clear hK K hb
            refine wpAnyH_ready (rs := [6]) (by kernel_rfl) (by simp) ?_
            refine AllReadyH.cons rfl (fun K hK => ?_) AllReadyH.nil
            go_simp
            have l6 : ¬ wx46.heap.size < w2.heap.size := Nat.not_lt.2 hHeld.size
            have n67 : wx46.heap.size ≠ wd.heap.size := Nat.ne_of_gt h7.lt
            have F : Below w2.heap.size w2 (wx46.alloc (.cells #[.int .i64 0, .int .i64 0, .int .i64 0, .int .i64 0] 23)) ∧ Bx (wx46.alloc (.cells #[.int .i64 0, .int .i64 0, .int .i64 0, .int .i64 0] 23)) w.heap.size a ∧ Bx (wx46.alloc (.cells #[.int .i64 0, .int .i64 0, .int .i64 0, .int .i64 0] 23)) (w.heap.size + 1) b ∧ Below w.heap.size w (wx46.alloc (.cells #[.int .i64 0, .int .i64 0, .int .i64 0, .int .i64 0] 23)) ∧ Bx (wx46.alloc (.cells #[.int .i64 0, .int .i64 0, .int .i64 0, .int .i64 0] 23)) wx46.heap.size rz ∧ Bx (wx46.alloc (.cells #[.int .i64 0, .int .i64 0, .int .i64 0, .int .i64 0] 23)) wd.heap.size rz := ⟨Below.on hHeld (below_new _ _), hA.on (below_new _ _), hB.on (below_new _ _), Below.on hw (below_new _ _), bx_new _ rz, h7.on (below_new _ _)⟩
            refine hK.out _ _ F.1 (fun _ => ?_)
            clear hK K hHeld hA hB hw h7
            revert F
            generalize wx46.alloc (.cells #[.int .i64 0, .int .i64 0, .int .i64 0, .int .i64 0] 23) = wx47
            rintro ⟨hHeld, hA, hB, hw, h6, h7⟩
            obtain ⟨d0, d1, d2, d3⟩ := h6.all
            have fz := h6.fz
            refine wpAnyH_ready (rs := [8]) (by kernel_rfl) (by simp) ?_
            refine AllReadyH.cons rfl (fun K hK => ?_) AllReadyH.nil
            go_simp
            have F : Below w2.heap.size w2 (st4 wx47 wx46.heap.size (cut a b)) ∧ Bx (st4 wx47 wx46.heap.size (cut a b)) w.heap.size a ∧ Bx (st4 wx47 wx46.heap.size (cut a b)) (w.heap.size + 1) b ∧ Below w.heap.size w (st4 wx47 wx46.heap.size (cut a b)) ∧ Bx (st4 wx47 wx46.heap.size (cut a b)) wx46.heap.size (cut a b) ∧ Bx (st4 wx47 wx46.heap.size (cut a b)) wd.heap.size (rz) := ⟨below_st hHeld (Nat.le_of_not_lt l6) _, hA.st_other (fun e => l6 (by rw [← e]; exact lA)) _, hB.st_other (fun e => l6 (by rw [← e]; exact lB)) _, below_st hw (by omega) _, h6.st _, h7.st_other n67.symm _⟩
            refine hK.out _ _ F.1 (fun _ => ?_)
            clear hK K d0 d1 d2 d3 fz
            change wpAnyH _ _ _ _ _ _ _ _ (st4 wx47 wx46.heap.size (cut a b))
            clear hHeld hA hB hw h6 h7
            revert F
            generalize st4 wx47 wx46.heap.size (cut a b) = wx48
            rintro ⟨hHeld, hA, hB, hw, h6, h7⟩
            obtain ⟨d0, d1, d2, d3⟩ := h7.all
            have fz := h7.fz
            refine wpAnyH_ready (rs := [9]) (by kernel_rfl) (by simp) ?_
            refine AllReadyH.cons rfl (fun K hK => ?_) AllReadyH.nil
            go_simp
            have F : Below w2.heap.size w2 (st4 wx48 wd.heap.size (cov a b)) ∧ Bx (st4 wx48 wd.heap.size (cov a b)) w.heap.size a ∧ Bx (st4 wx48 wd.heap.size (cov a b)) (w.heap.size + 1) b ∧ Below w.heap.size w (st4 wx48 wd.heap.size (cov a b)) ∧ Bx (st4 wx48 wd.heap.size (cov a b)) wd.heap.size (cov a b) ∧ Bx (st4 wx48 wd.heap.size (cov a b)) wx46.heap.size (cut a b) := ⟨below_st hHeld (Nat.le_of_not_lt l7) _, hA.st_other (fun e => l7 (by rw [← e]; exact lA)) _, hB.st_other (fun e => l7 (by rw [← e]; exact lB)) _, below_st hw (by omega) _, h7.st _, h6.st_other n67 _⟩
            refine hK.out _ _ F.1 (fun _ => ?_)
            clear hK K d0 d1 d2 d3 fz
            change wpAnyH _ _ _ _ _ _ _ _ (st4 wx48 wd.heap.size (cov a b))
            clear hHeld hA hB hw h6 h7
            revert F
            generalize st4 wx48 wd.heap.size (cov a b) = wx49
            rintro ⟨hHeld, hA, hB, hw, h7, h6⟩
            refine wpAnyH_done (by kernel_rfl) ?_ _
            go_wp2_with fail
            go_meet
            exact ⟨_, _, rfl, rfl, hA, hB, h6, h7, hw⟩
          refine AllReadyH.cons rfl (fun K hK => ?_) AllReadyH.nil
          go_simp
          have l6 : ¬ wx45.heap.size < w2.heap.size := Nat.not_lt.2 hHeld.size
          have n67 : wx45.heap.size ≠ wd.heap.size := Nat.ne_of_gt h7.lt
          have F : Below w2.heap.size w2 (wx45.alloc (.cells #[.int .i64 0, .int .i64 0, .int .i64 0, .int .i64 0] 23)) ∧ Bx (wx45.alloc (.cells #[.int .i64 0, .int .i64 0, .int .i64 0, .int .i64 0] 23)) w.heap.size a ∧ Bx (wx45.alloc (.cells #[.int .i64 0, .int .i64 0, .int .i64 0, .int .i64 0] 23)) (w.heap.size + 1) b ∧ Below w.heap.size w (wx45.alloc (.cells #[.int .i64 0, .int .i64 0, .int .i64 0, .int .i64 0] 23)) ∧ Bx (wx45.alloc (.cells #[.int .i64 0, .int .i64 0, .int .i64 0, .int .i64 0] 23)) wx45.heap.size rz ∧ Bx (wx45.alloc (.cells #[.int .i64 0, .int .i64 0, .int .i64 0, .int .i64 0] 23)) wd.heap.size rz := ⟨Below.on hHeld (below_new _ _), hA.on (below_new _ _), hB.on (below_new _ _), Below.on hw (below_new _ _), bx_new _ rz, h7.on (below_new _ _)⟩
          refine hK.out _ _ F.1 (fun _ => ?_)
          clear hK K hHeld hA hB hw h7
          revert F
          generalize wx45.alloc (.cells #[.int .i64 0, .int .i64 0, .int .i64 0, .int .i64 0] 23) = wx50
          rintro ⟨hHeld, hA, hB, hw, h6, h7⟩
          refine wpAnyH_ready (rs := [5]) (by kernel_rfl) (by simp) ?_
          refine AllReadyH.cons rfl (fun K hK => ?_) AllReadyH.nil
          go_simp
          go_wp2_with fail
          refine (D2.out _).mono ?_
          rintro e wx51 ⟨rfl, hb⟩
          replace hHeld := Below.on hHeld hb
          replace hA := hA.on hb
          replace hB := hB.on hb
          replace hw := Below.on hw hb
          replace h6 := h6.on hb
          replace h7 := h7.on hb
          refine hK.out _ _ hHeld (fun _ => ?_)
          clear hK K hb
          obtain ⟨d0, d1, d2, d3⟩ := h6.all
          have fz := h6.fz
          refine wpAnyH_ready (rs := [8]) (by kernel_rfl) (by simp) ?_
          refine AllReadyH.cons rfl (fun K hK => ?_) AllReadyH.nil
          go_simp
          have F : Below w2.heap.size w2 (st4 wx51 wx45.heap.size (cut a b)) ∧ Bx (st4 wx51 wx45.heap.size (cut a b)) w.heap.size a ∧ Bx (st4 wx51 wx45.heap.size (cut a b)) (w.heap.size + 1) b ∧ Below w.heap.size w (st4 wx51 wx45.heap.size (cut a b)) ∧ Bx (st4 wx51 wx45.heap.size (cut a b)) wx45.heap.size (cut a b) ∧ Bx (st4 wx51 wx45.heap.size (cut a b)) wd.heap.size (rz) := ⟨below_st hHeld (Nat.le_of_not_lt l6) _, hA.st_other (fun e => l6 (by rw [← e]; exact lA)) _, hB.st_other (fun e => l6 (by rw [← e]; exact lB)) _, below_st hw (by omega) _, h6.st _, h7.st_other n67.symm _⟩
          refine hK.out _ _ F.1 (fun _ => ?_)
          clear hK K d0 d1 d2 d3 fz
          change wpAnyH _ _ _ _ _ _ _ _ (st4 wx51 wx45.heap.size (cut a b))
          clear hHeld hA hB hw h6 h7
          revert F
          generalize st4 wx51 wx45.heap.size (cut a b) = wx52
          rintro ⟨hHeld, hA, hB, hw, h6, h7⟩
          obtain ⟨d0, d1, d2, d3⟩ := h7.all
          have fz := h7.fz
          refine wpAnyH_ready (rs := [9]) (by kernel_rfl) (by simp) ?_
          refine AllReadyH.cons rfl (fun K hK => ?_) AllReadyH.nil
          go_simp
          have F : Below w2.heap.size w2 (st4 wx52 wd.heap.size (cov a b)) ∧ Bx (st4 wx52 wd.heap.size (cov a b)) w.heap.size a ∧ Bx (st4 wx52 wd.heap.size (cov a b)) (w.heap.size + 1) b ∧ Below w.heap.size w (st4 wx52 wd.heap.size (cov a b)) ∧ Bx (st4 wx52 wd.heap.size (cov a b)) wd.heap.size (cov a b) ∧ Bx (st4 wx52 wd.heap.size (cov a b)) wx45.heap.size (cut a b) := ⟨below_st hHeld (Nat.le_of_not_lt l7) _, hA.st_other (fun e => l7 (by rw [← e]; exact lA)) _, hB.st_other (fun e => l7 (by rw [← e]; exact lB)) _, below_st hw (by omega) _, h7.st _, h6.st_other n67 _⟩
          refine hK.out _ _ F.1 (fun _ => ?_)
          clear hK K d0 d1 d2 d3 fz
          change wpAnyH _ _ _ _ _ _ _ _ (st4 wx52 wd.heap.size (cov a b))
          clear hHeld hA hB hw h6 h7
          revert F
          generalize st4 wx52 wd.heap.size (cov a b) = wx53
          rintro ⟨hHeld, hA, hB, hw, h7, h6⟩
          refine wpAnyH_done (by kernel_rfl) ?_ _
          go_wp2_with fail
          go_meet
          exact ⟨_, _, rfl, rfl, hA, hB, h6, h7, hw⟩
        refine AllReadyH.cons rfl (fun K hK => ?_) AllReadyH.nil
        go_simp
        have l6 : ¬ wx44.heap.size < w2.heap.size := Nat.not_lt.2 hHeld.size
        have n67 : wx44.heap.size ≠ wd.heap.size := Nat.ne_of_gt h7.lt
        have F : Below w2.heap.size w2 (wx44.alloc (.cells #[.int .i64 0, .int .i64 0, .int .i64 0, .int .i64 0] 23)) ∧ Bx (wx44.alloc (.cells #[.int .i64 0, .int .i64 0, .int .i64 0, .int .i64 0] 23)) w.heap.size a ∧ Bx (wx44.alloc (.cells #[.int .i64 0, .int .i64 0, .int .i64 0, .int .i64 0] 23)) (w.heap.size + 1) b ∧ Below w.heap.size w (wx44.alloc (.cells #[.int .i64 0, .int .i64 0, .int .i64 0, .int .i64 0] 23)) ∧ Bx (wx44.alloc (.cells #[.int .i64 0, .int .i64 0, .int .i64 0, .int .i64 0] 23)) wx44.heap.size rz ∧ Bx (wx44.alloc (.cells #[.int .i64 0, .int .i64 0, .int .i64 0, .int .i64 0] 23)) wd.heap.size rz := ⟨Below.on hHeld (below_new _ _), hA.on (below_new _ _), hB.on (below_new _ _), Below.on hw (below_new _ _), bx_new _ rz, h7.on (below_new _ _)⟩
        refine hK.out _ _ F.1 (fun _ => ?_)
        clear hK K hHeld hA hB hw h7
        revert F
        generalize wx44.alloc (.cells #[.int .i64 0, .int .i64 0, .int .i64 0, .int .i64 0] 23) = wx54
        rintro ⟨hHeld, hA, hB, hw, h6, h7⟩
        refine wpAnyH_ready (rs := [2]) (by kernel_rfl) (by simp) ?_
        refine AllReadyH.cons rfl (fun K hK => ?_) AllReadyH.nil
        go_simp
        go_wp2_with fail
        refine (D1.out _).mono ?_
        rintro e wx55 ⟨rfl, hb⟩
        replace hHeld := Below.on hHeld hb
        replace hA := hA.on hb
        replace hB := hB.on hb
        replace hw := Below.on hw hb
        replace h6 := h6.on hb
        replace h7 := h7.on hb
        refine hK.out _ _ hHeld (fun _ => ?_)
        clear hK K hb
        refine wpAnyH_ready (rs := [5]) (by kernel_rfl) (by simp) ?_
        refine AllReadyH.cons rfl (fun K hK => ?_) AllReadyH.nil
        go_simp
        go_wp2_with fail
        refine (D2.out _).mono ?_
        rintro e wx56 ⟨rfl, hb⟩
        replace hHeld := Below.on hHeld hb
        replace hA := hA.on hb
        replace hB := hB.on hb
        replace hw := Below.on hw hb
        replace h6 := h6.on hb
        replace h7 := h7.on hb
        refine hK.out _ _ hHeld (fun _ => ?_)
        clear hK K hb
        obtain ⟨d0, d1, d2, d3⟩ := h6.all
        have fz := h6.fz
        refine wpAnyH_ready (rs := [8]) (by kernel_rfl) (by simp) ?_
        refine AllReadyH.cons rfl (fun K hK => ?_) AllReadyH.nil
        go_simp
        have F : Below w2.heap.size w2 (st4 wx56 wx44.heap.size (cut a b)) ∧ Bx (st4 wx56 wx44.heap.size (cut a b)) w.heap.size a ∧ Bx (st4 wx56 wx44.heap.size (cut a b)) (w.heap.size + 1) b ∧ Below w.heap.size w (st4 wx56 wx44.heap.size (cut a b)) ∧ Bx (st4 wx56 wx44.heap.size (cut a b)) wx44.heap.size (cut a b) ∧ Bx (st4 wx56 wx44.heap.size (cut a b)) wd.heap.size (rz) := ⟨below_st hHeld (Nat.le_of_not_lt l6) _, hA.st_other (fun e => l6 (by rw [← e]; exact lA)) _, hB.st_other (fun e => l6 (by rw [← e]; exact lB)) _, below_st hw (by omega) _, h6.st _, h7.st_other n67.symm _⟩
        refine hK.out _ _ F.1 (fun _ => ?_)
        clear hK K d0 d1 d2 d3 fz
        change wpAnyH _ _ _ _ _ _ _ _ (st4 wx56 wx44.heap.size (cut a b))
        clear hHeld hA hB hw h6 h7
        revert F
        generalize st4 wx56 wx44.heap.size (cut a b) = wx57
        rintro ⟨hHeld, hA, hB, hw, h6, h7⟩
        obtain ⟨d0, d1, d2, d3⟩ := h7.all
        have fz := h7.fz
        refine wpAnyH_ready (rs := [9]) (by kernel_rfl) (by simp) ?_
        refine AllReadyH.cons rfl (fun K hK => ?_) AllReadyH.nil
        go_simp
        have F : Below w2.heap.size w2 (st4 wx57 wd.heap.size (cov a b)) ∧ Bx (st4 wx57 wd.heap.size (cov a b)) w.heap.size a ∧ Bx (st4 wx57 wd.heap.size (cov a b)) (w.heap.size + 1) b ∧ Below w.heap.size w (st4 wx57 wd.heap.size (cov a b)) ∧ Bx (st4 wx57 wd.heap.size (cov a b)) wd.heap.size (cov a b) ∧ Bx (st4 wx57 wd.heap.size (cov a b)) wx44.heap.size (cut a b) := ⟨below_st hHeld (Nat.le_of_not_lt l7) _, hA.st_other (fun e => l7 (by rw [← e]; exact lA)) _, hB.st_other (fun e => l7 (by rw [← e]; exact lB)) _, below_st hw (by omega) _, h7.st _, h6.st_other n67 _⟩
        refine hK.out _ _ F.1 (fun _ => ?_)
        clear hK K d0 d1 d2 d3 fz
        change wpAnyH _ _ _ _ _ _ _ _ (st4 wx57 wd.heap.size (cov a b))
        clear hHeld hA hB hw h6 h7
        revert F
        generalize st4 wx57 wd.heap.size (cov a b) = wx58
        rintro ⟨hHeld, hA, hB, hw, h7, h6⟩
        refine wpAnyH_done (by kernel_rfl) ?_ _
        go_wp2_with fail
        go_meet
        exact ⟨_, _, rfl, rfl, hA, hB, h6, h7, hw⟩
      case rest =>
        obtain ⟨p, q, rfl, rfl, hA, hB, hP, hQ, hw⟩ := hcut
        clear HA HB HW D1 D2
        have HA := hid hA
        have HB := hid hB
        have HP := hid hP
        have HQ := hid hQ
        have HW := hid hw
        clear hA hB hP hQ hw
        have kd := cov_ck ka kb
        have eg := eqlR_guard
        have E1 := fun w => cut_any b a hb ha w
        have E2 := fun w => cover_any b a hb ha (fun _ _ => cvr_ok kb ka) w
        have E3 := fun w => cut_any a a ha ha w
        have E4 := fun w => cover_any a a ha ha (fun _ _ => cvr_ok ka ka) w
        have E5 := fun w => cut_any a (cov a b) ha kd.ok w
        have E6 := fun w => empty_any (cut a b) w
        have E8 := fun w => bound_any a ha w
        have E9 := fun w => check_any (cov a b) kd.ok w
        rw [cut_comm] at E1
        rw [cov_comm kb ka] at E2
        rw [cut_self ka] at E3
        rw [cov_self ka] at E4
        rw [cut_cov ka kb] at E5
        rw [bnd_ck ka] at E8
        rw [chk_dck kd.ok, dck_iff.2 kd] at E9
        have F1 := hid E1
        have F2 := hid E2
        have F3 := hid E3
        have F4 := hid E4
        have F5 := hid E5
        have F8 := hid E8
        have F9 := hid E9
        have FA := hid awake_any
        have r1 := eqlR (cut a b) (cut a b)
        have r2 := eqlR (cov a b) (cov a b)
        have r3 := eqlR a a
        rw [rceq_same] at r1 r2 r3
        clear E1 E2 E3 E4 E5 E8 E9 kd
        cases hc : emp (cut a b)
        · rw [hc] at E6
          have F6 := hid E6
          have kc := cut_ck ka kb hc
          have E7 := fun w => cover_any a (cut a b) ha kc.ok (fun _ _ => cvr_ok ka kc) w
          rw [cov_cut ka kb hc] at E7
          have F7 := hid E7
          clear E6 E7 kc hc ka kb ha hb
          go_upto_region 4 with fail
          refine wp_region_held_drew (S := fun x => Below wc.heap.size wc x) (by kernel_rfl) (Below.refl _ _).drew (fun hHeld => ?_)
          have hHeld : Below wc.heap.size wc wc.drew := hHeld
          refine wpAnyH_take (i := 0) (v := ?_) rfl (by kernel_rfl) (by kernel_rfl) (by kernel_rfl) (fun _ _ _ h => h) (Or.inl ⟨by kernel_rfl, ?hy0⟩) (by assumption) ?_
          case hy0 => (intro w hSw; (try dsimp only at hSw); obtain ⟨t00, t01, t02, t03⟩ := (HA.out.on hSw).all; obtain ⟨t10, t11, t12, t13⟩ := (HB.out.on hSw).all; obtain ⟨t20, t21, t22, t23⟩ := (HP.out.on hSw).all; obtain ⟨t30, t31, t32, t33⟩ := (HQ.out.on hSw).all; go_simp; try with_reducible rfl)
          try simp only [Act.put, List.getElem_toArray, List.getElem_cons_zero, List.setIfInBounds_toArray, List.set_cons_zero, List.set_cons_succ]
          refine wpAnyH_take (i := 1) (v := ?_) rfl (by kernel_rfl) (by kernel_rfl) (by kernel_rfl) (fun _ _ _ h => h) (Or.inl ⟨by kernel_rfl, ?hy1⟩) (by assumption) ?_
          case hy1 => (intro w hSw; (try dsimp only at hSw); obtain ⟨t00, t01, t02, t03⟩ := (HA.out.on hSw).all; obtain ⟨t10, t11, t12, t13⟩ := (HB.out.on hSw).all; obtain ⟨t20, t21, t22, t23⟩ := (HP.out.on hSw).all; obtain ⟨t30, t31, t32, t33⟩ := (HQ.out.on hSw).all; go_simp; try with_reducible rfl)
          try simp only [Act.put, List.getElem_toArray, List.getElem_cons_zero, List.getElem_cons_succ, List.setIfInBounds_toArray, List.set_cons_zero, List.set_cons_succ]
          refine wpAnyH_take (i := 2) (v := ?_) rfl (by kernel_rfl) (by kernel_rfl) (by kernel_rfl) (fun _ _ _ h => h) (Or.inl ⟨by kernel_rfl, ?hy2⟩) (by assumption) ?_
          case hy2 => (intro w hSw; (try dsimp only at hSw); obtain ⟨t00, t01, t02, t03⟩ := (HA.out.on hSw).all; obtain ⟨t10, t11, t12, t13⟩ := (HB.out.on hSw).all; obtain ⟨t20, t21, t22, t23⟩ := (HP.out.on hSw).all; obtain ⟨t30, t31, t32, t33⟩ := (HQ.out.on hSw).all; go_simp; try with_reducible rfl)
          try simp only [Act.put, List.getElem_toArray, List.getElem_cons_zero, List.getElem_cons_succ, List.setIfInBounds_toArray, List.set_cons_zero, List.set_cons_succ]
          refine wpAnyH_ready (rs := [3]) (by kernel_rfl) (by simp) ?_
          refine AllReadyH.cons rfl (fun K hK => ?_) AllReadyH.nil
          go_simp
          go_wp2_with fail
          refine (F1.out _).mono ?_
          rintro e u203 ⟨rfl, hb⟩
          replace hHeld := Below.on hHeld hb
          refine hK.out _ _ hHeld (fun _ => ?_)
          clear hK K hb
          refine wpAnyH_take (i := 4) (v := ?_) rfl (by kernel_rfl) (by kernel_rfl) (by kernel_rfl) (fun _ _ _ h => h) (Or.inl ⟨by kernel_rfl, ?hy4⟩) (by assumption) ?_
          case hy4 => (intro w hSw; (try dsimp only at hSw); obtain ⟨t00, t01, t02, t03⟩ := (HA.out.on hSw).all; obtain ⟨t10, t11, t12, t13⟩ := (HB.out.on hSw).all; obtain ⟨t20, t21, t22, t23⟩ := (HP.out.on hSw).all; obtain ⟨t30, t31, t32, t33⟩ := (HQ.out.on hSw).all; go_simp; try with_reducible rfl)
          try simp only [Act.put, List.getElem_toArray, List.getElem_cons_zero, List.getElem_cons_succ, List.setIfInBounds_toArray, List.set_cons_zero, List.set_cons_succ]
          refine wpAnyH_take (i := 5) (v := ?_) rfl (by kernel_rfl) (by kernel_rfl) (by kernel_rfl) (fun _ _ _ h => h) (Or.inl ⟨by kernel_rfl, ?hy5⟩) (by assumption) ?_
          case hy5 => (intro w hSw; (try dsimp only at hSw); obtain ⟨t00, t01, t02, t03⟩ := (HA.out.on hSw).all; obtain ⟨t10, t11, t12, t13⟩ := (HB.out.on hSw).all; obtain ⟨t20, t21, t22, t23⟩ := (HP.out.on hSw).all; obtain ⟨t30, t31, t32, t33⟩ := (HQ.out.on hSw).all; go_simp; try with_reducible rfl)
          try simp only [Act.put, List.getElem_toArray, List.getElem_cons_zero, List.getElem_cons_succ, List.setIfInBounds_toArray, List.set_cons_zero, List.set_cons_succ]
          refine wpAnyH_take (i := 6) (v := ?_) rfl (by kernel_rfl) (by kernel_rfl) (by kernel_rfl) (fun _ _ _ h => h) (Or.inl ⟨by kernel_rfl, ?hy6⟩) (by assumption) ?_
          case hy6 => (intro w hSw; (try dsimp only at hSw); obtain ⟨t00, t01, t02, t03⟩ := (HA.out.on hSw).all; obtain ⟨t10, t11, t12, t13⟩ := (HB.out.on hSw).all; obtain ⟨t20, t21, t22, t23⟩ := (HP.out.on hSw).all; obtain ⟨t30, t31, t32, t33⟩ := (HQ.out.on hSw).all; go_simp; try with_reducible rfl)
          try simp only [Act.put, List.getElem_toArray, List.getElem_cons_zero, List.getElem_cons_succ, List.setIfInBounds_toArray, List.set_cons_zero, List.set_cons_succ]
          refine wpAnyH_take (i := 7) (v := ?_) rfl (by kernel_rfl) (by kernel_rfl) (by kernel_rfl) (fun _ _ _ h => h) (Or.inl ⟨by kernel_rfl, ?hy7⟩) (by assumption) ?_
          case hy7 => (intro w hSw; (try dsimp only at hSw); obtain ⟨t00, t01, t02, t03⟩ := (HA.out.on hSw).all; obtain ⟨t10, t11, t12, t13⟩ := (HB.out.on hSw).all; obtain ⟨t20, t21, t22, t23⟩ := (HP.out.on hSw).all; obtain ⟨t30, t31, t32, t33⟩ := (HQ.out.on hSw).all; go_simp; try with_reducible rfl)
          try simp only [Act.put, List.getElem_toArray, List.getElem_cons_zero, List.getElem_cons_succ, List.setIfInBounds_toArray, List.set_cons_zero, List.set_cons_succ]
          refine wpAnyH_take (i := 8) (v := ?_) rfl (by kernel_rfl) (by kernel_rfl) (by kernel_rfl) (fun _ _ _ h => h) (Or.inl ⟨by kernel_rfl, ?hy8⟩) (by assumption) ?_
          case hy8 => (intro w hSw; (try dsimp only at hSw); obtain ⟨t00, t01, t02, t03⟩ := (HA.out.on hSw).all; obtain ⟨t10, t11, t12, t13⟩ := (HB.out.on hSw).all; obtain ⟨t20, t21, t22, t23⟩ := (HP.out.on hSw).all; obtain ⟨t30, t31, t32, t33⟩ := (HQ.out.on hSw).all; go_simp; try with_reducible rfl)
          try simp only [Act.put, List.getElem_toArray, List.getElem_cons_zero, List.getElem_cons_succ, List.setIfInBounds_toArray, List.set_cons_zero, List.set_cons_succ]
          refine wpAnyH_ready (rs := [9]) (by kernel_rfl) (by simp) ?_
          refine AllReadyH.cons rfl (fun K hK => ?_) AllReadyH.nil
          go_simp
          go_wp2_with fail
          refine (F2.out _).mono ?_
          rintro e u209 ⟨rfl, hb⟩
          replace hHeld := Below.on hHeld hb
          refine hK.out _ _ hHeld (fun _ => ?_)
          clear hK K hb
          refine wpAnyH_take (i := 10) (v := ?_) rfl (by kernel_rfl) (by kernel_rfl) (by kernel_rfl) (fun _ _ _ h => h) (Or.inl ⟨by kernel_rfl, ?hy10⟩) (by assumption) ?_
          case hy10 => (intro w hSw; (try dsimp only at hSw); obtain ⟨t00, t01, t02, t03⟩ := (HA.out.on hSw).all; obtain ⟨t10, t11, t12, t13⟩ := (HB.out.on hSw).all; obtain ⟨t20, t21, t22, t23⟩ := (HP.out.on hSw).all; obtain ⟨t30, t31, t32, t33⟩ := (HQ.out.on hSw).all; go_simp; try with_reducible rfl)
          try simp only [Act.put, List.getElem_toArray, List.getElem_cons_zero, List.getElem_cons_succ, List.setIfInBounds_toArray, List.set_cons_zero, List.set_cons_succ]
          refine wpAnyH_take (i := 11) (v := ?_) rfl (by kernel_rfl) (by kernel_rfl) (by kernel_rfl) (fun _ _ _ h => h) (Or.inl ⟨by kernel_rfl, ?hy11⟩) (by assumption) ?_
          case hy11 => (intro w hSw; (try dsimp only at hSw); obtain ⟨t00, t01, t02, t03⟩ := (HA.out.on hSw).all; obtain ⟨t10, t11, t12, t13⟩ := (HB.out.on hSw).all; obtain ⟨t20, t21, t22, t23⟩ := (HP.out.on hSw).all; obtain ⟨t30, t31, t32, t33⟩ := (HQ.out.on hSw).all; go_simp; try with_reducible rfl)
          try simp only [Act.put, List.getElem_toArray, List.getElem_cons_zero, List.getElem_cons_succ, List.setIfInBounds_toArray, List.set_cons_zero, List.set_cons_succ]
          refine wpAnyH_take (i := 12) (v := ?_) rfl (by kernel_rfl) (by kernel_rfl) (by kernel_rfl) (fun _ _ _ h => h) (Or.inl ⟨by kernel_rfl, ?hy12⟩) (by assumption) ?_
          case hy12 => (intro w hSw; (try dsimp only at hSw); obtain ⟨t00, t01, t02, t03⟩ := (HA.out.on hSw).all; obtain ⟨t10, t11, t12, t13⟩ := (HB.out.on hSw).all; obtain ⟨t20, t21, t22, t23⟩ := (HP.out.on hSw).all; obtain ⟨t30, t31, t32, t33⟩ := (HQ.out.on hSw).all; go_simp; try with_reducible rfl)
          try simp only [Act.put, List.getElem_toArray, List.getElem_cons_zero, List.getElem_cons_succ, List.setIfInBounds_toArray, List.set_cons_zero, List.set_cons_succ]
          refine wpAnyH_take (i := 13) (v := ?_) rfl (by kernel_rfl) (by kernel_rfl) (by kernel_rfl) (fun _ _ _ h => h) (Or.inl ⟨by kernel_rfl, ?hy13⟩) (by assumption) ?_
          case hy13 => (intro w hSw; (try dsimp only at hSw); obtain ⟨t00, t01, t02, t03⟩ := (HA.out.on hSw).all; obtain ⟨t10, t11, t12, t13⟩ := (HB.out.on hSw).all; obtain ⟨t20, t21, t22, t23⟩ := (HP.out.on hSw).all; obtain ⟨t30, t31, t32, t33⟩ := (HQ.out.on hSw).all; go_simp; try with_reducible rfl)
          try simp only [Act.put, List.getElem_toArray, List.getElem_cons_zero, List.getElem_cons_succ, List.setIfInBounds_toArray, List.set_cons_zero, List.set_cons_succ]
          refine wpAnyH_take (i := 14) (v := ?_) rfl (by kernel_rfl) (by kernel_rfl) (by kernel_rfl) (fun _ _ _ h => h) (Or.inl ⟨by kernel_rfl, ?hy14⟩) (by assumption) ?_
          case hy14 => (intro w hSw; (try dsimp only at hSw); obtain ⟨t00, t01, t02, t03⟩ := (HA.out.on hSw).all; obtain ⟨t10, t11, t12, t13⟩ := (HB.out.on hSw).all; obtain ⟨t20, t21, t22, t23⟩ := (HP.out.on hSw).all; obtain ⟨t30, t31, t32, t33⟩ := (HQ.out.on hSw).all; go_simp; try with_reducible rfl)
          try simp only [Act.put, List.getElem_toArray, List.getElem_cons_zero, List.getElem_cons_succ, List.setIfInBounds_toArray, List.set_cons_zero, List.set_cons_succ]
          refine wpAnyH_take (i := 16) (v := ?_) rfl (by kernel_rfl) (by kernel_rfl) (by kernel_rfl) (fun _ _ _ h => h) (Or.inl ⟨by kernel_rfl, ?hy16⟩) (by assumption) ?_
          case hy16 => (intro w hSw; (try dsimp only at hSw); obtain ⟨t00, t01, t02, t03⟩ := (HA.out.on hSw).all; obtain ⟨t10, t11, t12, t13⟩ := (HB.out.on hSw).all; obtain ⟨t20, t21, t22, t23⟩ := (HP.out.on hSw).all; obtain ⟨t30, t31, t32, t33⟩ := (HQ.out.on hSw).all; go_simp; try with_reducible rfl)
          try simp only [Act.put, List.getElem_toArray, List.getElem_cons_zero, List.getElem_cons_succ, List.setIfInBounds_toArray, List.set_cons_zero, List.set_cons_succ]
          refine wpAnyH_ready (rs := [15]) (by kernel_rfl) (by simp) ?_
          refine AllReadyH.cons rfl (fun K hK => ?_) AllReadyH.nil
          go_simp
          go_wp2_with fail
          refine (F3.out _).mono ?_
          rintro e u215 ⟨rfl, hb⟩
          replace hHeld := Below.on hHeld hb
          refine hK.out _ _ hHeld (fun _ => ?_)
          clear hK K hb
          refine wpAnyH_take (i := 17) (v := ?_) rfl (by kernel_rfl) (by kernel_rfl) (by kernel_rfl) (fun _ _ _ h => h) (Or.inl ⟨by kernel_rfl, ?hy17⟩) (by assumption) ?_
          case hy17 => (intro w hSw; (try dsimp only at hSw); obtain ⟨t00, t01, t02, t03⟩ := (HA.out.on hSw).all; obtain ⟨t10, t11, t12, t13⟩ := (HB.out.on hSw).all; obtain ⟨t20, t21, t22, t23⟩ := (HP.out.on hSw).all; obtain ⟨t30, t31, t32, t33⟩ := (HQ.out.on hSw).all; go_simp; try with_reducible rfl)
          try simp only [Act.put, List.getElem_toArray, List.getElem_cons_zero, List.getElem_cons_succ, List.setIfInBounds_toArray, List.set_cons_zero, List.set_cons_succ]
          refine wpAnyH_take (i := 18) (v := ?_) rfl (by kernel_rfl) (by kernel_rfl) (by kernel_rfl) (fun _ _ _ h => h) (Or.inl ⟨by kernel_rfl, ?hy18⟩) (by assumption) ?_
          case hy18 => (intro w hSw; (try dsimp only at hSw); obtain ⟨t00, t01, t02, t03⟩ := (HA.out.on hSw).all; obtain ⟨t10, t11, t12, t13⟩ := (HB.out.on hSw).all; obtain ⟨t20, t21, t22, t23⟩ := (HP.out.on hSw).all; obtain ⟨t30, t31, t32, t33⟩ := (HQ.out.on hSw).all; go_simp; try with_reducible rfl)
          try simp only [Act.put, List.getElem_toArray, List.getElem_cons_zero, List.getElem_cons_succ, List.setIfInBounds_toArray, List.set_cons_zero, List.set_cons_succ]
          refine wpAnyH_take (i := 19) (v := ?_) rfl (by kernel_rfl) (by kernel_rfl) (by kernel_rfl) (fun _ _ _ h => h) (Or.inl ⟨by kernel_rfl, ?hy19⟩) (by assumption) ?_
          case hy19 => (intro w hSw; (try dsimp only at hSw); obtain ⟨t00, t01, t02, t03⟩ := (HA.out.on hSw).all; obtain ⟨t10, t11, t12, t13⟩ := (HB.out.on hSw).all; obtain ⟨t20, t21, t22, t23⟩ := (HP.out.on hSw).all; obtain ⟨t30, t31, t32, t33⟩ := (HQ.out.on hSw).all; go_simp; try with_reducible rfl)
          try simp only [Act.put, List.getElem_toArray, List.getElem_cons_zero, List.getElem_cons_succ, List.setIfInBounds_toArray, List.set_cons_zero, List.set_cons_succ]
          refine wpAnyH_take (i := 20) (v := ?_) rfl (by kernel_rfl) (by kernel_rfl) (by kernel_rfl) (fun _ _ _ h => h) (Or.inl ⟨by kernel_rfl, ?hy20⟩) (by assumption) ?_
          case hy20 => (intro w hSw; (try dsimp only at hSw); obtain ⟨t00, t01, t02, t03⟩ := (HA.out.on hSw).all; obtain ⟨t10, t11, t12, t13⟩ := (HB.out.on hSw).all; obtain ⟨t20, t21, t22, t23⟩ := (HP.out.on hSw).all; obtain ⟨t30, t31, t32, t33⟩ := (HQ.out.on hSw).all; go_simp; try with_reducible rfl)
          try simp only [Act.put, List.getElem_toArray, List.getElem_cons_zero, List.getElem_cons_succ, List.setIfInBounds_toArray, List.set_cons_zero, List.set_cons_succ]
          refine wpAnyH_take (i := 21) (v := ?_) rfl (by kernel_rfl) (by kernel_rfl) (by kernel_rfl) (fun _ _ _ h => h) (Or.inl ⟨by kernel_rfl, ?hy21⟩) (by assumption) ?_
          case hy21 => (intro w hSw; (try dsimp only at hSw); obtain ⟨t00, t01, t02, t03⟩ := (HA.out.on hSw).all; obtain ⟨t10, t11, t12, t13⟩ := (HB.out.on hSw).all; obtain ⟨t20, t21, t22, t23⟩ := (HP.out.on hSw).all; obtain ⟨t30, t31, t32, t33⟩ := (HQ.out.on hSw).all; go_simp; try with_reducible rfl)
          try simp only [Act.put, List.getElem_toArray, List.getElem_cons_zero, List.getElem_cons_succ, List.setIfInBounds_toArray, List.set_cons_zero, List.set_cons_succ]
          refine wpAnyH_take (i := 23) (v := ?_) rfl (by kernel_rfl) (by kernel_rfl) (by kernel_rfl) (fun _ _ _ h => h) (Or.inl ⟨by kernel_rfl, ?hy23⟩) (by assumption) ?_
          case hy23 => (intro w hSw; (try dsimp only at hSw); obtain ⟨t00, t01, t02, t03⟩ := (HA.out.on hSw).all; obtain ⟨t10, t11, t12, t13⟩ := (HB.out.on hSw).all; obtain ⟨t20, t21, t22, t23⟩ := (HP.out.on hSw).all; obtain ⟨t30, t31, t32, t33⟩ := (HQ.out.on hSw).all; go_simp; try with_reducible rfl)
          try simp only [Act.put, List.getElem_toArray, List.getElem_cons_zero, List.getElem_cons_succ, List.setIfInBounds_toArray, List.set_cons_zero, List.set_cons_succ]
          refine wpAnyH_ready (rs := [22]) (by kernel_rfl) (by simp) ?_
          refine AllReadyH.cons rfl (fun K hK => ?_) AllReadyH.nil
          go_simp
          go_wp2_with fail
          refine (F4.out _).mono ?_
          rintro e u222 ⟨rfl, hb⟩
          replace hHeld := Below.on hHeld hb
          refine hK.out _ _ hHeld (fun _ => ?_)
          clear hK K hb
          refine wpAnyH_take (i := 24) (v := ?_) rfl (by kernel_rfl) (by kernel_rfl) (by kernel_rfl) (fun _ _ _ h => h) (Or.inl ⟨by kernel_rfl, ?hy24⟩) (by assumption) ?_
          case hy24 => (intro w hSw; (try dsimp only at hSw); obtain ⟨t00, t01, t02, t03⟩ := (HA.out.on hSw).all; obtain ⟨t10, t11, t12, t13⟩ := (HB.out.on hSw).all; obtain ⟨t20, t21, t22, t23⟩ := (HP.out.on hSw).all; obtain ⟨t30, t31, t32, t33⟩ := (HQ.out.on hSw).all; go_simp; try with_reducible rfl)
          try simp only [Act.put, List.getElem_toArray, List.getElem_cons_zero, List.getElem_cons_succ, List.setIfInBounds_toArray, List.set_cons_zero, List.set_cons_succ]
          refine wpAnyH_take (i := 25) (v := ?_) rfl (by kernel_rfl) (by kernel_rfl) (by kernel_rfl) (fun _ _ _ h => h) (Or.inl ⟨by kernel_rfl, ?hy25⟩) (by assumption) ?_
          case hy25 => (intro w hSw; (try dsimp only at hSw); obtain ⟨t00, t01, t02, t03⟩ := (HA.out.on hSw).all; obtain ⟨t10, t11, t12, t13⟩ := (HB.out.on hSw).all; obtain ⟨t20, t21, t22, t23⟩ := (HP.out.on hSw).all; obtain ⟨t30, t31, t32, t33⟩ := (HQ.out.on hSw).all; go_simp; try with_reducible rfl)
          try simp only [Act.put, List.getElem_toArray, List.getElem_cons_zero, List.getElem_cons_succ, List.setIfInBounds_toArray, List.set_cons_zero, List.set_cons_succ]
          refine wpAnyH_take (i := 26) (v := ?_) rfl (by kernel_rfl) (by kernel_rfl) (by kernel_rfl) (fun _ _ _ h => h) (Or.inl ⟨by kernel_rfl, ?hy26⟩) (by assumption) ?_
          case hy26 => (intro w hSw; (try dsimp only at hSw); obtain ⟨t00, t01, t02, t03⟩ := (HA.out.on hSw).all; obtain ⟨t10, t11, t12, t13⟩ := (HB.out.on hSw).all; obtain ⟨t20, t21, t22, t23⟩ := (HP.out.on hSw).all; obtain ⟨t30, t31, t32, t33⟩ := (HQ.out.on hSw).all; go_simp; try with_reducible rfl)
          try simp only [Act.put, List.getElem_toArray, List.getElem_cons_zero, List.getElem_cons_succ, List.setIfInBounds_toArray, List.set_cons_zero, List.set_cons_succ]
          refine wpAnyH_take (i := 27) (v := ?_) rfl (by kernel_rfl) (by kernel_rfl) (by kernel_rfl) (fun _ _ _ h => h) (Or.inl ⟨by kernel_rfl, ?hy27⟩) (by assumption) ?_
          case hy27 => (intro w hSw; (try dsimp only at hSw); obtain ⟨t00, t01, t02, t03⟩ := (HA.out.on hSw).all; obtain ⟨t10, t11, t12, t13⟩ := (HB.out.on hSw).all; obtain ⟨t20, t21, t22, t23⟩ := (HP.out.on hSw).all; obtain ⟨t30, t31, t32, t33⟩ := (HQ.out.on hSw).all; go_simp; try with_reducible rfl)
          try simp only [Act.put, List.getElem_toArray, List.getElem_cons_zero, List.getElem_cons_succ, List.setIfInBounds_toArray, List.set_cons_zero, List.set_cons_succ]
          refine wpAnyH_take (i := 28) (v := ?_) rfl (by kernel_rfl) (by kernel_rfl) (by kernel_rfl) (fun _ _ _ h => h) (Or.inl ⟨by kernel_rfl, ?hy28⟩) (by assumption) ?_
          case hy28 => (intro w hSw; (try dsimp only at hSw); obtain ⟨t00, t01, t02, t03⟩ := (HA.out.on hSw).all; obtain ⟨t10, t11, t12, t13⟩ := (HB.out.on hSw).all; obtain ⟨t20, t21, t22, t23⟩ := (HP.out.on hSw).all; obtain ⟨t30, t31, t32, t33⟩ := (HQ.out.on hSw).all; go_simp; try with_reducible rfl)
          try simp only [Act.put, List.getElem_toArray, List.getElem_cons_zero, List.getElem_cons_succ, List.setIfInBounds_toArray, List.set_cons_zero, List.set_cons_succ]
          refine wpAnyH_take (i := 30) (v := ?_) rfl (by kernel_rfl) (by kernel_rfl) (by kernel_rfl) (fun _ _ _ h => h) (Or.inl ⟨by kernel_rfl, ?hy30⟩) (by assumption) ?_
          case hy30 => (intro w hSw; (try dsimp only at hSw); obtain ⟨t00, t01, t02, t03⟩ := (HA.out.on hSw).all; obtain ⟨t10, t11, t12, t13⟩ := (HB.out.on hSw).all; obtain ⟨t20, t21, t22, t23⟩ := (HP.out.on hSw).all; obtain ⟨t30, t31, t32, t33⟩ := (HQ.out.on hSw).all; go_simp; try with_reducible rfl)
          try simp only [Act.put, List.getElem_toArray, List.getElem_cons_zero, List.getElem_cons_succ, List.setIfInBounds_toArray, List.set_cons_zero, List.set_cons_succ]
          refine wpAnyH_ready (rs := [29]) (by kernel_rfl) (by simp) ?_
          refine AllReadyH.cons rfl (fun K hK => ?_) AllReadyH.nil
          go_simp
          go_wp2_with fail
          refine (F5.out _).mono ?_
          rintro e u229 ⟨rfl, hb⟩
          replace hHeld := Below.on hHeld hb
          refine hK.out _ _ hHeld (fun _ => ?_)
          clear hK K hb
          refine wpAnyH_take (i := 31) (v := ?_) rfl (by kernel_rfl) (by kernel_rfl) (by kernel_rfl) (fun _ _ _ h => h) (Or.inl ⟨by kernel_rfl, ?hy31⟩) (by assumption) ?_
          case hy31 => (intro w hSw; (try dsimp only at hSw); obtain ⟨t00, t01, t02, t03⟩ := (HA.out.on hSw).all; obtain ⟨t10, t11, t12, t13⟩ := (HB.out.on hSw).all; obtain ⟨t20, t21, t22, t23⟩ := (HP.out.on hSw).all; obtain ⟨t30, t31, t32, t33⟩ := (HQ.out.on hSw).all; go_simp; try with_reducible rfl)
          try simp only [Act.put, List.getElem_toArray, List.getElem_cons_zero, List.getElem_cons_succ, List.setIfInBounds_toArray, List.set_cons_zero, List.set_cons_succ]
          refine wpAnyH_take (i := 32) (v := ?_) rfl (by kernel_rfl) (by kernel_rfl) (by kernel_rfl) (fun _ _ _ h => h) (Or.inl ⟨by kernel_rfl, ?hy32⟩) (by assumption) ?_
          case hy32 => (intro w hSw; (try dsimp only at hSw); obtain ⟨t00, t01, t02, t03⟩ := (HA.out.on hSw).all; obtain ⟨t10, t11, t12, t13⟩ := (HB.out.on hSw).all; obtain ⟨t20, t21, t22, t23⟩ := (HP.out.on hSw).all; obtain ⟨t30, t31, t32, t33⟩ := (HQ.out.on hSw).all; go_simp; try with_reducible rfl)
          try simp only [Act.put, List.getElem_toArray, List.getElem_cons_zero, List.getElem_cons_succ, List.setIfInBounds_toArray, List.set_cons_zero, List.set_cons_succ]
          refine wpAnyH_take (i := 33) (v := ?_) rfl (by kernel_rfl) (by kernel_rfl) (by kernel_rfl) (fun _ _ _ h => h) (Or.inl ⟨by kernel_rfl, ?hy33⟩) (by assumption) ?_
          case hy33 => (intro w hSw; (try dsimp only at hSw); obtain ⟨t00, t01, t02, t03⟩ := (HA.out.on hSw).all; obtain ⟨t10, t11, t12, t13⟩ := (HB.out.on hSw).all; obtain ⟨t20, t21, t22, t23⟩ := (HP.out.on hSw).all; obtain ⟨t30, t31, t32, t33⟩ := (HQ.out.on hSw).all; go_simp; try with_reducible rfl)
          try simp only [Act.put, List.getElem_toArray, List.getElem_cons_zero, List.getElem_cons_succ, List.setIfInBounds_toArray, List.set_cons_zero, List.set_cons_succ]
          refine wpAnyH_take (i := 34) (v := ?_) rfl (by kernel_rfl) (by kernel_rfl) (by kernel_rfl) (fun _ _ _ h => h) (Or.inl ⟨by kernel_rfl, ?hy34⟩) (by assumption) ?_
          case hy34 => (intro w hSw; (try dsimp only at hSw); obtain ⟨t00, t01, t02, t03⟩ := (HA.out.on hSw).all; obtain ⟨t10, t11, t12, t13⟩ := (HB.out.on hSw).all; obtain ⟨t20, t21, t22, t23⟩ := (HP.out.on hSw).all; obtain ⟨t30, t31, t32, t33⟩ := (HQ.out.on hSw).all; go_simp; try with_reducible rfl)
          try simp only [Act.put, List.getElem_toArray, List.getElem_cons_zero, List.getElem_cons_succ, List.setIfInBounds_toArray, List.set_cons_zero, List.set_cons_succ]
          refine wpAnyH_ready (rs := [35]) (by kernel_rfl) (by simp) ?_
          refine AllReadyH.cons rfl (fun K hK => ?_) AllReadyH.nil
          go_simp
          go_wp2_with fail
          refine (F6.out _).mono ?_
          rintro e u235 ⟨rfl, hb⟩
          replace hHeld := Below.on hHeld hb
          refine hK.out _ _ hHeld (fun _ => ?_)
          clear hK K hb
          refine wpAnyH_take (i := 36) (v := ?_) rfl (by kernel_rfl) (by kernel_rfl) (by kernel_rfl) (fun _ _ _ h => h) (Or.inl ⟨by kernel_rfl, ?hy36⟩) (by assumption) ?_
          case hy36 => (intro w hSw; (try dsimp only at hSw); obtain ⟨t00, t01, t02, t03⟩ := (HA.out.on hSw).all; obtain ⟨t10, t11, t12, t13⟩ := (HB.out.on hSw).all; obtain ⟨t20, t21, t22, t23⟩ := (HP.out.on hSw).all; obtain ⟨t30, t31, t32, t33⟩ := (HQ.out.on hSw).all; go_simp; try with_reducible rfl)
          try simp only [Act.put, List.getElem_toArray, List.getElem_cons_zero, List.getElem_cons_succ, List.setIfInBounds_toArray, List.set_cons_zero, List.set_cons_succ]
          refine wpAnyH_take (i := 37) (v := undef) rfl (by kernel_rfl) (by kernel_rfl) (by kernel_rfl) (fun _ _ _ h => h) (Or.inr ⟨by kernel_rfl, rfl⟩) (by assumption) ?_
          try simp only [Act.put, List.getElem_toArray, List.getElem_cons_zero, List.getElem_cons_succ, List.setIfInBounds_toArray, List.set_cons_zero, List.set_cons_succ]
          refine wpAnyH_take (i := 38) (v := undef) rfl (by kernel_rfl) (by kernel_rfl) (by kernel_rfl) (fun _ _ _ h => h) (Or.inr ⟨by kernel_rfl, rfl⟩) (by assumption) ?_
          try simp only [Act.put, List.getElem_toArray, List.getElem_cons_zero, List.getElem_cons_succ, List.setIfInBounds_toArray, List.set_cons_zero, List.set_cons_succ]
          refine wpAnyH_take (i := 39) (v := undef) rfl (by kernel_rfl) (by kernel_rfl) (by kernel_rfl) (fun _ _ _ h => h) (Or.inr ⟨by kernel_rfl, rfl⟩) (by assumption) ?_
          try simp only [Act.put, List.getElem_toArray, List.getElem_cons_zero, List.getElem_cons_succ, List.setIfInBounds_toArray, List.set_cons_zero, List.set_cons_succ]
          refine wpAnyH_take (i := 40) (v := ?_) rfl (by kernel_rfl) (by kernel_rfl) (by kernel_rfl) (fun _ _ _ h => h) (Or.inl ⟨by kernel_rfl, ?hy40⟩) (by assumption) ?_
          case hy40 => (intro w hSw; (try dsimp only at hSw); obtain ⟨t00, t01, t02, t03⟩ := (HA.out.on hSw).all; obtain ⟨t10, t11, t12, t13⟩ := (HB.out.on hSw).all; obtain ⟨t20, t21, t22, t23⟩ := (HP.out.on hSw).all; obtain ⟨t30, t31, t32, t33⟩ := (HQ.out.on hSw).all; go_simp; try with_reducible rfl)
          try simp only [Act.put, List.getElem_toArray, List.getElem_cons_zero, List.getElem_cons_succ, List.setIfInBounds_toArray, List.set_cons_zero, List.set_cons_succ]
          refine wpAnyH_take (i := 41) (v := ?_) rfl (by kernel_rfl) (by kernel_rfl) (by kernel_rfl) (fun _ _ _ h => h) (Or.inl ⟨by kernel_rfl, ?hy41⟩) (by assumption) ?_
          case hy41 => (intro w hSw; (try dsimp only at hSw); obtain ⟨t00, t01, t02, t03⟩ := (HA.out.on hSw).all; obtain ⟨t10, t11, t12, t13⟩ := (HB.out.on hSw).all; obtain ⟨t20, t21, t22, t23⟩ := (HP.out.on hSw).all; obtain ⟨t30, t31, t32, t33⟩ := (HQ.out.on hSw).all; go_simp; try with_reducible rfl)
          try simp only [Act.put, List.getElem_toArray, List.getElem_cons_zero, List.getElem_cons_succ, List.setIfInBounds_toArray, List.set_cons_zero, List.set_cons_succ]
          refine wpAnyH_take (i := 42) (v := ?_) rfl (by kernel_rfl) (by kernel_rfl) (by kernel_rfl) (fun _ _ _ h => h) (Or.inl ⟨by kernel_rfl, ?hy42⟩) (by assumption) ?_
          case hy42 => (intro w hSw; (try dsimp only at hSw); obtain ⟨t00, t01, t02, t03⟩ := (HA.out.on hSw).all; obtain ⟨t10, t11, t12, t13⟩ := (HB.out.on hSw).all; obtain ⟨t20, t21, t22, t23⟩ := (HP.out.on hSw).all; obtain ⟨t30, t31, t32, t33⟩ := (HQ.out.on hSw).all; go_simp; try with_reducible rfl)
          try simp only [Act.put, List.getElem_toArray, List.getElem_cons_zero, List.getElem_cons_succ, List.setIfInBounds_toArray, List.set_cons_zero, List.set_cons_succ]
          refine wpAnyH_take (i := 43) (v := ?_) rfl (by kernel_rfl) (by kernel_rfl) (by kernel_rfl) (fun _ _ _ h => h) (Or.inl ⟨by kernel_rfl, ?hy43⟩) (by assumption) ?_
          case hy43 => (intro w hSw; (try dsimp only at hSw); obtain ⟨t00, t01, t02, t03⟩ := (HA.out.on hSw).all; obtain ⟨t10, t11, t12, t13⟩ := (HB.out.on hSw).all; obtain ⟨t20, t21, t22, t23⟩ := (HP.out.on hSw).all; obtain ⟨t30, t31, t32, t33⟩ := (HQ.out.on hSw).all; go_simp; try with_reducible rfl)
          try simp only [Act.put, List.getElem_toArray, List.getElem_cons_zero, List.getElem_cons_succ, List.setIfInBounds_toArray, List.set_cons_zero, List.set_cons_succ]
          refine wpAnyH_take (i := 45) (v := ?_) rfl (by kernel_rfl) (by kernel_rfl) (by kernel_rfl) (fun _ _ _ h => h) (Or.inl ⟨by kernel_rfl, ?hy45⟩) (by assumption) ?_
          case hy45 => (intro w hSw; (try dsimp only at hSw); obtain ⟨t00, t01, t02, t03⟩ := (HA.out.on hSw).all; obtain ⟨t10, t11, t12, t13⟩ := (HB.out.on hSw).all; obtain ⟨t20, t21, t22, t23⟩ := (HP.out.on hSw).all; obtain ⟨t30, t31, t32, t33⟩ := (HQ.out.on hSw).all; go_simp; try with_reducible rfl)
          try simp only [Act.put, List.getElem_toArray, List.getElem_cons_zero, List.getElem_cons_succ, List.setIfInBounds_toArray, List.set_cons_zero, List.set_cons_succ]
          refine wpAnyH_ready (rs := [44]) (by kernel_rfl) (by simp) ?_
          refine AllReadyH.cons rfl (fun K hK => ?_) AllReadyH.nil
          go_simp
          go_wp2_with fail
          refine (F7.out _).mono ?_
          rintro e u244 ⟨rfl, hb⟩
          replace hHeld := Below.on hHeld hb
          refine hK.out _ _ hHeld (fun _ => ?_)
          clear hK K hb
          refine wpAnyH_take (i := 46) (v := ?_) rfl (by kernel_rfl) (by kernel_rfl) (by kernel_rfl) (fun _ _ _ h => h) (Or.inl ⟨by kernel_rfl, ?hy46⟩) (by assumption) ?_
          case hy46 => (intro w hSw; (try dsimp only at hSw); obtain ⟨t00, t01, t02, t03⟩ := (HA.out.on hSw).all; obtain ⟨t10, t11, t12, t13⟩ := (HB.out.on hSw).all; obtain ⟨t20, t21, t22, t23⟩ := (HP.out.on hSw).all; obtain ⟨t30, t31, t32, t33⟩ := (HQ.out.on hSw).all; go_simp; try with_reducible rfl)
          try simp only [Act.put, List.getElem_toArray, List.getElem_cons_zero, List.getElem_cons_succ, List.setIfInBounds_toArray, List.set_cons_zero, List.set_cons_succ]
          refine wpAnyH_take (i := 47) (v := ?_) rfl (by kernel_rfl) (by kernel_rfl) (by kernel_rfl) (fun _ _ _ h => h) (Or.inl ⟨by kernel_rfl, ?hy47⟩) (by assumption) ?_
          case hy47 => (intro w hSw; (try dsimp only at hSw); obtain ⟨t00, t01, t02, t03⟩ := (HA.out.on hSw).all; obtain ⟨t10, t11, t12, t13⟩ := (HB.out.on hSw).all; obtain ⟨t20, t21, t22, t23⟩ := (HP.out.on hSw).all; obtain ⟨t30, t31, t32, t33⟩ := (HQ.out.on hSw).all; go_simp; try with_reducible rfl)
          try simp only [Act.put, List.getElem_toArray, List.getElem_cons_zero, List.getElem_cons_succ, List.setIfInBounds_toArray, List.set_cons_zero, List.set_cons_succ]
          refine wpAnyH_take (i := 48) (v := ?_) rfl (by kernel_rfl) (by kernel_rfl) (by kernel_rfl) (fun _ _ _ h => h) (Or.inl ⟨by kernel_rfl, ?hy48⟩) (by assumption) ?_
          case hy48 => (intro w hSw; (try dsimp only at hSw); obtain ⟨t00, t01, t02, t03⟩ := (HA.out.on hSw).all; obtain ⟨t10, t11, t12, t13⟩ := (HB.out.on hSw).all; obtain ⟨t20, t21, t22, t23⟩ := (HP.out.on hSw).all; obtain ⟨t30, t31, t32, t33⟩ := (HQ.out.on hSw).all; go_simp; try with_reducible rfl)
          try simp only [Act.put, List.getElem_toArray, List.getElem_cons_zero, List.getElem_cons_succ, List.setIfInBounds_toArray, List.set_cons_zero, List.set_cons_succ]
          refine wpAnyH_take (i := 49) (v := ?_) rfl (by kernel_rfl) (by kernel_rfl) (by kernel_rfl) (fun _ _ _ h => h) (Or.inl ⟨by kernel_rfl, ?hy49⟩) (by assumption) ?_
          case hy49 => (intro w hSw; (try dsimp only at hSw); obtain ⟨t00, t01, t02, t03⟩ := (HA.out.on hSw).all; obtain ⟨t10, t11, t12, t13⟩ := (HB.out.on hSw).all; obtain ⟨t20, t21, t22, t23⟩ := (HP.out.on hSw).all; obtain ⟨t30, t31, t32, t33⟩ := (HQ.out.on hSw).all; go_simp; try with_reducible rfl)
          try simp only [Act.put, List.getElem_toArray, List.getElem_cons_zero, List.getElem_cons_succ, List.setIfInBounds_toArray, List.set_cons_zero, List.set_cons_succ]
          refine wpAnyH_take (i := 50) (v := ?_) rfl (by kernel_rfl) (by kernel_rfl) (by kernel_rfl) (fun _ _ _ h => h) (Or.inl ⟨by kernel_rfl, ?hy50⟩) (by assumption) ?_
          case hy50 => (intro w hSw; (try dsimp only at hSw); obtain ⟨t00, t01, t02, t03⟩ := (HA.out.on hSw).all; obtain ⟨t10, t11, t12, t13⟩ := (HB.out.on hSw).all; obtain ⟨t20, t21, t22, t23⟩ := (HP.out.on hSw).all; obtain ⟨t30, t31, t32, t33⟩ := (HQ.out.on hSw).all; go_simp; try with_reducible rfl)
          try simp only [Act.put, List.getElem_toArray, List.getElem_cons_zero, List.getElem_cons_succ, List.setIfInBounds_toArray, List.set_cons_zero, List.set_cons_succ]
          refine wpAnyH_take (i := 52) (v := ?_) rfl (by kernel_rfl) (by kernel_rfl) (by kernel_rfl) (fun _ _ _ h => h) (Or.inl ⟨by kernel_rfl, ?hy52⟩) (by assumption) ?_
          case hy52 => (intro w hSw; (try dsimp only at hSw); obtain ⟨t00, t01, t02, t03⟩ := (HA.out.on hSw).all; obtain ⟨t10, t11, t12, t13⟩ := (HB.out.on hSw).all; obtain ⟨t20, t21, t22, t23⟩ := (HP.out.on hSw).all; obtain ⟨t30, t31, t32, t33⟩ := (HQ.out.on hSw).all; go_simp; try with_reducible rfl)
          try simp only [Act.put, List.getElem_toArray, List.getElem_cons_zero, List.getElem_cons_succ, List.setIfInBounds_toArray, List.set_cons_zero, List.set_cons_succ]
          refine wpAnyH_ready (rs := [51]) (by kernel_rfl) (by simp) ?_
          refine AllReadyH.cons rfl (fun K hK => ?_) AllReadyH.nil
          go_simp
          go_wp2_with fail
          refine (F8.out _).mono ?_
          rintro e u251 ⟨rfl, hb⟩
          replace hHeld := Below.on hHeld hb
          refine hK.out _ _ hHeld (fun _ => ?_)
          clear hK K hb
          refine wpAnyH_take (i := 53) (v := ?_) rfl (by kernel_rfl) (by kernel_rfl) (by kernel_rfl) (fun _ _ _ h => h) (Or.inl ⟨by kernel_rfl, ?hy53⟩) (by assumption) ?_
          case hy53 => (intro w hSw; (try dsimp only at hSw); obtain ⟨t00, t01, t02, t03⟩ := (HA.out.on hSw).all; obtain ⟨t10, t11, t12, t13⟩ := (HB.out.on hSw).all; obtain ⟨t20, t21, t22, t23⟩ := (HP.out.on hSw).all; obtain ⟨t30, t31, t32, t33⟩ := (HQ.out.on hSw).all; go_simp; try with_reducible rfl)
          try simp only [Act.put, List.getElem_toArray, List.getElem_cons_zero, List.getElem_cons_succ, List.setIfInBounds_toArray, List.set_cons_zero, List.set_cons_succ]
          refine wpAnyH_take (i := 54) (v := ?_) rfl (by kernel_rfl) (by kernel_rfl) (by kernel_rfl) (fun _ _ _ h => h) (Or.inl ⟨by kernel_rfl, ?hy54⟩) (by assumption) ?_
          case hy54 => (intro w hSw; (try dsimp only at hSw); obtain ⟨t00, t01, t02, t03⟩ := (HA.out.on hSw).all; obtain ⟨t10, t11, t12, t13⟩ := (HB.out.on hSw).all; obtain ⟨t20, t21, t22, t23⟩ := (HP.out.on hSw).all; obtain ⟨t30, t31, t32, t33⟩ := (HQ.out.on hSw).all; go_simp; try with_reducible rfl)
          try simp only [Act.put, List.getElem_toArray, List.getElem_cons_zero, List.getElem_cons_succ, List.setIfInBounds_toArray, List.set_cons_zero, List.set_cons_succ]
          refine wpAnyH_take (i := 55) (v := ?_) rfl (by kernel_rfl) (by kernel_rfl) (by kernel_rfl) (fun _ _ _ h => h) (Or.inl ⟨by kernel_rfl, ?hy55⟩) (by assumption) ?_
          case hy55 => (intro w hSw; (try dsimp only at hSw); obtain ⟨t00, t01, t02, t03⟩ := (HA.out.on hSw).all; obtain ⟨t10, t11, t12, t13⟩ := (HB.out.on hSw).all; obtain ⟨t20, t21, t22, t23⟩ := (HP.out.on hSw).all; obtain ⟨t30, t31, t32, t33⟩ := (HQ.out.on hSw).all; go_simp; try with_reducible rfl)
          try simp only [Act.put, List.getElem_toArray, List.getElem_cons_zero, List.getElem_cons_succ, List.setIfInBounds_toArray, List.set_cons_zero, List.set_cons_succ]
          refine wpAnyH_take (i := 56) (v := ?_) rfl (by kernel_rfl) (by kernel_rfl) (by kernel_rfl) (fun _ _ _ h => h) (Or.inl ⟨by kernel_rfl, ?hy56⟩) (by assumption) ?_
          case hy56 => (intro w hSw; (try dsimp only at hSw); obtain ⟨t00, t01, t02, t03⟩ := (HA.out.on hSw).all; obtain ⟨t10, t11, t12, t13⟩ := (HB.out.on hSw).all; obtain ⟨t20, t21, t22, t23⟩ := (HP.out.on hSw).all; obtain ⟨t30, t31, t32, t33⟩ := (HQ.out.on hSw).all; go_simp; try with_reducible rfl)
          try simp only [Act.put, List.getElem_toArray, List.getElem_cons_zero, List.getElem_cons_succ, List.setIfInBounds_toArray, List.set_cons_zero, List.set_cons_succ]
          refine wpAnyH_ready (rs := [57]) (by kernel_rfl) (by simp) ?_
          refine AllReadyH.cons rfl (fun K hK => ?_) AllReadyH.nil
          go_simp
          go_wp2_with fail
          refine (F9.out _).mono ?_
          rintro e u257 ⟨rfl, hb⟩
          replace hHeld := Below.on hHeld hb
          refine hK.out _ _ hHeld (fun _ => ?_)
          clear hK K hb
          refine wpAnyH_take (i := 58) (v := ?_) rfl (by kernel_rfl) (by kernel_rfl) (by kernel_rfl) (fun _ _ _ h => h) (Or.inl ⟨by kernel_rfl, ?hy58⟩) (by assumption) ?_
          case hy58 => (intro w hSw; (try dsimp only at hSw); obtain ⟨t00, t01, t02, t03⟩ := (HA.out.on hSw).all; obtain ⟨t10, t11, t12, t13⟩ := (HB.out.on hSw).all; obtain ⟨t20, t21, t22, t23⟩ := (HP.out.on hSw).all; obtain ⟨t30, t31, t32, t33⟩ := (HQ.out.on hSw).all; go_simp; try with_reducible rfl)
          try simp only [Act.put, List.getElem_toArray, List.getElem_cons_zero, List.getElem_cons_succ, List.setIfInBounds_toArray, List.set_cons_zero, List.set_cons_succ]
          refine wpAnyH_take (i := 59) (v := ?_) rfl (by kernel_rfl) (by kernel_rfl) (by kernel_rfl) (fun _ _ _ h => h) (Or.inl ⟨by kernel_rfl, ?hy59⟩) (by assumption) ?_
          case hy59 => (intro w hSw; (try dsimp only at hSw); obtain ⟨t00, t01, t02, t03⟩ := (HA.out.on hSw).all; obtain ⟨t10, t11, t12, t13⟩ := (HB.out.on hSw).all; obtain ⟨t20, t21, t22, t23⟩ := (HP.out.on hSw).all; obtain ⟨t30, t31, t32, t33⟩ := (HQ.out.on hSw).all; go_simp; try with_reducible rfl)
          try simp only [Act.put, List.getElem_toArray, List.getElem_cons_zero, List.getElem_cons_succ, List.setIfInBounds_toArray, List.set_cons_zero, List.set_cons_succ]
          refine wpAnyH_ready (rs := [60]) (by kernel_rfl) (by simp) ?_
          refine AllReadyH.cons rfl (fun K hK => ?_) AllReadyH.nil
          go_simp
          go_wp2_with fail
          refine (FA.out _).mono ?_
          rintro e u260 ⟨rfl, hb⟩
          replace hHeld := Below.on hHeld hb
          refine hK.out _ _ hHeld (fun _ => ?_)
          clear hK K hb
          refine wpAnyH_take (i := 61) (v := ?_) rfl (by kernel_rfl) (by kernel_rfl) (by kernel_rfl) (fun _ _ _ h => h) (Or.inl ⟨by kernel_rfl, ?hy61⟩) (by assumption) ?_
          case hy61 => (intro w hSw; (try dsimp only at hSw); obtain ⟨t00, t01, t02, t03⟩ := (HA.out.on hSw).all; obtain ⟨t10, t11, t12, t13⟩ := (HB.out.on hSw).all; obtain ⟨t20, t21, t22, t23⟩ := (HP.out.on hSw).all; obtain ⟨t30, t31, t32, t33⟩ := (HQ.out.on hSw).all; go_simp; try with_reducible rfl)
          try simp only [Act.put, List.getElem_toArray, List.getElem_cons_zero, List.getElem_cons_succ, List.setIfInBounds_toArray, List.set_cons_zero, List.set_cons_succ]
          refine wpAnyH_take (i := 62) (v := ?_) rfl (by kernel_rfl) (by kernel_rfl) (by kernel_rfl) (fun _ _ _ h => h) (Or.inl ⟨by kernel_rfl, ?hy62⟩) (by assumption) ?_
          case hy62 => (intro w hSw; (try dsimp only at hSw); obtain ⟨t00, t01, t02, t03⟩ := (HA.out.on hSw).all; obtain ⟨t10, t11, t12, t13⟩ := (HB.out.on hSw).all; obtain ⟨t20, t21, t22, t23⟩ := (HP.out.on hSw).all; obtain ⟨t30, t31, t32, t33⟩ := (HQ.out.on hSw).all; go_simp; try with_reducible rfl)
          try simp only [Act.put, List.getElem_toArray, List.getElem_cons_zero, List.getElem_cons_succ, List.setIfInBounds_toArray, List.set_cons_zero, List.set_cons_succ]
          refine wpAnyH_done (by kernel_rfl) ?_ _
          go_wp2
          go_ret
          exact ⟨rfl, Below.on HW.out hHeld⟩
        · rw [hc] at E6
          have F6 := hid E6
          have r4 : ∀ w, (binOp .eql 23 (.agg #[.int .i64 (cut a b).x, .int .i64 (cut a b).y, .int .i64 (cut a b).w, .int .i64 (cut a b).h]) (.agg #[.int .i64 0, .int .i64 0, .int .i64 0, .int .i64 0])).run Try.prog w = .ok (.bool true) w := fun w => by
            have h := eqlR (cut a b) rz w
            rw [show rceq (cut a b) rz = true by rw [cut_rz ka kb hc]; exact rceq_same rz] at h
            exact h
          clear E6 hc ka kb ha hb
          go_upto_region 4 with fail
          refine wp_region_held_drew (S := fun x => Below wc.heap.size wc x) (by kernel_rfl) (Below.refl _ _).drew (fun hHeld => ?_)
          have hHeld : Below wc.heap.size wc wc.drew := hHeld
          refine wpAnyH_take (i := 0) (v := ?_) rfl (by kernel_rfl) (by kernel_rfl) (by kernel_rfl) (fun _ _ _ h => h) (Or.inl ⟨by kernel_rfl, ?hy0⟩) (by assumption) ?_
          case hy0 => (intro w hSw; (try dsimp only at hSw); obtain ⟨t00, t01, t02, t03⟩ := (HA.out.on hSw).all; obtain ⟨t10, t11, t12, t13⟩ := (HB.out.on hSw).all; obtain ⟨t20, t21, t22, t23⟩ := (HP.out.on hSw).all; obtain ⟨t30, t31, t32, t33⟩ := (HQ.out.on hSw).all; go_simp; try with_reducible rfl)
          try simp only [Act.put, List.getElem_toArray, List.getElem_cons_zero, List.setIfInBounds_toArray, List.set_cons_zero, List.set_cons_succ]
          refine wpAnyH_take (i := 1) (v := ?_) rfl (by kernel_rfl) (by kernel_rfl) (by kernel_rfl) (fun _ _ _ h => h) (Or.inl ⟨by kernel_rfl, ?hy1⟩) (by assumption) ?_
          case hy1 => (intro w hSw; (try dsimp only at hSw); obtain ⟨t00, t01, t02, t03⟩ := (HA.out.on hSw).all; obtain ⟨t10, t11, t12, t13⟩ := (HB.out.on hSw).all; obtain ⟨t20, t21, t22, t23⟩ := (HP.out.on hSw).all; obtain ⟨t30, t31, t32, t33⟩ := (HQ.out.on hSw).all; go_simp; try with_reducible rfl)
          try simp only [Act.put, List.getElem_toArray, List.getElem_cons_zero, List.getElem_cons_succ, List.setIfInBounds_toArray, List.set_cons_zero, List.set_cons_succ]
          refine wpAnyH_take (i := 2) (v := ?_) rfl (by kernel_rfl) (by kernel_rfl) (by kernel_rfl) (fun _ _ _ h => h) (Or.inl ⟨by kernel_rfl, ?hy2⟩) (by assumption) ?_
          case hy2 => (intro w hSw; (try dsimp only at hSw); obtain ⟨t00, t01, t02, t03⟩ := (HA.out.on hSw).all; obtain ⟨t10, t11, t12, t13⟩ := (HB.out.on hSw).all; obtain ⟨t20, t21, t22, t23⟩ := (HP.out.on hSw).all; obtain ⟨t30, t31, t32, t33⟩ := (HQ.out.on hSw).all; go_simp; try with_reducible rfl)
          try simp only [Act.put, List.getElem_toArray, List.getElem_cons_zero, List.getElem_cons_succ, List.setIfInBounds_toArray, List.set_cons_zero, List.set_cons_succ]
          refine wpAnyH_ready (rs := [3]) (by kernel_rfl) (by simp) ?_
          refine AllReadyH.cons rfl (fun K hK => ?_) AllReadyH.nil
          go_simp
          go_wp2_with fail
          refine (F1.out _).mono ?_
          rintro e u203 ⟨rfl, hb⟩
          replace hHeld := Below.on hHeld hb
          refine hK.out _ _ hHeld (fun _ => ?_)
          clear hK K hb
          refine wpAnyH_take (i := 4) (v := ?_) rfl (by kernel_rfl) (by kernel_rfl) (by kernel_rfl) (fun _ _ _ h => h) (Or.inl ⟨by kernel_rfl, ?hy4⟩) (by assumption) ?_
          case hy4 => (intro w hSw; (try dsimp only at hSw); obtain ⟨t00, t01, t02, t03⟩ := (HA.out.on hSw).all; obtain ⟨t10, t11, t12, t13⟩ := (HB.out.on hSw).all; obtain ⟨t20, t21, t22, t23⟩ := (HP.out.on hSw).all; obtain ⟨t30, t31, t32, t33⟩ := (HQ.out.on hSw).all; go_simp; try with_reducible rfl)
          try simp only [Act.put, List.getElem_toArray, List.getElem_cons_zero, List.getElem_cons_succ, List.setIfInBounds_toArray, List.set_cons_zero, List.set_cons_succ]
          refine wpAnyH_take (i := 5) (v := ?_) rfl (by kernel_rfl) (by kernel_rfl) (by kernel_rfl) (fun _ _ _ h => h) (Or.inl ⟨by kernel_rfl, ?hy5⟩) (by assumption) ?_
          case hy5 => (intro w hSw; (try dsimp only at hSw); obtain ⟨t00, t01, t02, t03⟩ := (HA.out.on hSw).all; obtain ⟨t10, t11, t12, t13⟩ := (HB.out.on hSw).all; obtain ⟨t20, t21, t22, t23⟩ := (HP.out.on hSw).all; obtain ⟨t30, t31, t32, t33⟩ := (HQ.out.on hSw).all; go_simp; try with_reducible rfl)
          try simp only [Act.put, List.getElem_toArray, List.getElem_cons_zero, List.getElem_cons_succ, List.setIfInBounds_toArray, List.set_cons_zero, List.set_cons_succ]
          refine wpAnyH_take (i := 6) (v := ?_) rfl (by kernel_rfl) (by kernel_rfl) (by kernel_rfl) (fun _ _ _ h => h) (Or.inl ⟨by kernel_rfl, ?hy6⟩) (by assumption) ?_
          case hy6 => (intro w hSw; (try dsimp only at hSw); obtain ⟨t00, t01, t02, t03⟩ := (HA.out.on hSw).all; obtain ⟨t10, t11, t12, t13⟩ := (HB.out.on hSw).all; obtain ⟨t20, t21, t22, t23⟩ := (HP.out.on hSw).all; obtain ⟨t30, t31, t32, t33⟩ := (HQ.out.on hSw).all; go_simp; try with_reducible rfl)
          try simp only [Act.put, List.getElem_toArray, List.getElem_cons_zero, List.getElem_cons_succ, List.setIfInBounds_toArray, List.set_cons_zero, List.set_cons_succ]
          refine wpAnyH_take (i := 7) (v := ?_) rfl (by kernel_rfl) (by kernel_rfl) (by kernel_rfl) (fun _ _ _ h => h) (Or.inl ⟨by kernel_rfl, ?hy7⟩) (by assumption) ?_
          case hy7 => (intro w hSw; (try dsimp only at hSw); obtain ⟨t00, t01, t02, t03⟩ := (HA.out.on hSw).all; obtain ⟨t10, t11, t12, t13⟩ := (HB.out.on hSw).all; obtain ⟨t20, t21, t22, t23⟩ := (HP.out.on hSw).all; obtain ⟨t30, t31, t32, t33⟩ := (HQ.out.on hSw).all; go_simp; try with_reducible rfl)
          try simp only [Act.put, List.getElem_toArray, List.getElem_cons_zero, List.getElem_cons_succ, List.setIfInBounds_toArray, List.set_cons_zero, List.set_cons_succ]
          refine wpAnyH_take (i := 8) (v := ?_) rfl (by kernel_rfl) (by kernel_rfl) (by kernel_rfl) (fun _ _ _ h => h) (Or.inl ⟨by kernel_rfl, ?hy8⟩) (by assumption) ?_
          case hy8 => (intro w hSw; (try dsimp only at hSw); obtain ⟨t00, t01, t02, t03⟩ := (HA.out.on hSw).all; obtain ⟨t10, t11, t12, t13⟩ := (HB.out.on hSw).all; obtain ⟨t20, t21, t22, t23⟩ := (HP.out.on hSw).all; obtain ⟨t30, t31, t32, t33⟩ := (HQ.out.on hSw).all; go_simp; try with_reducible rfl)
          try simp only [Act.put, List.getElem_toArray, List.getElem_cons_zero, List.getElem_cons_succ, List.setIfInBounds_toArray, List.set_cons_zero, List.set_cons_succ]
          refine wpAnyH_ready (rs := [9]) (by kernel_rfl) (by simp) ?_
          refine AllReadyH.cons rfl (fun K hK => ?_) AllReadyH.nil
          go_simp
          go_wp2_with fail
          refine (F2.out _).mono ?_
          rintro e u209 ⟨rfl, hb⟩
          replace hHeld := Below.on hHeld hb
          refine hK.out _ _ hHeld (fun _ => ?_)
          clear hK K hb
          refine wpAnyH_take (i := 10) (v := ?_) rfl (by kernel_rfl) (by kernel_rfl) (by kernel_rfl) (fun _ _ _ h => h) (Or.inl ⟨by kernel_rfl, ?hy10⟩) (by assumption) ?_
          case hy10 => (intro w hSw; (try dsimp only at hSw); obtain ⟨t00, t01, t02, t03⟩ := (HA.out.on hSw).all; obtain ⟨t10, t11, t12, t13⟩ := (HB.out.on hSw).all; obtain ⟨t20, t21, t22, t23⟩ := (HP.out.on hSw).all; obtain ⟨t30, t31, t32, t33⟩ := (HQ.out.on hSw).all; go_simp; try with_reducible rfl)
          try simp only [Act.put, List.getElem_toArray, List.getElem_cons_zero, List.getElem_cons_succ, List.setIfInBounds_toArray, List.set_cons_zero, List.set_cons_succ]
          refine wpAnyH_take (i := 11) (v := ?_) rfl (by kernel_rfl) (by kernel_rfl) (by kernel_rfl) (fun _ _ _ h => h) (Or.inl ⟨by kernel_rfl, ?hy11⟩) (by assumption) ?_
          case hy11 => (intro w hSw; (try dsimp only at hSw); obtain ⟨t00, t01, t02, t03⟩ := (HA.out.on hSw).all; obtain ⟨t10, t11, t12, t13⟩ := (HB.out.on hSw).all; obtain ⟨t20, t21, t22, t23⟩ := (HP.out.on hSw).all; obtain ⟨t30, t31, t32, t33⟩ := (HQ.out.on hSw).all; go_simp; try with_reducible rfl)
          try simp only [Act.put, List.getElem_toArray, List.getElem_cons_zero, List.getElem_cons_succ, List.setIfInBounds_toArray, List.set_cons_zero, List.set_cons_succ]
          refine wpAnyH_take (i := 12) (v := ?_) rfl (by kernel_rfl) (by kernel_rfl) (by kernel_rfl) (fun _ _ _ h => h) (Or.inl ⟨by kernel_rfl, ?hy12⟩) (by assumption) ?_
          case hy12 => (intro w hSw; (try dsimp only at hSw); obtain ⟨t00, t01, t02, t03⟩ := (HA.out.on hSw).all; obtain ⟨t10, t11, t12, t13⟩ := (HB.out.on hSw).all; obtain ⟨t20, t21, t22, t23⟩ := (HP.out.on hSw).all; obtain ⟨t30, t31, t32, t33⟩ := (HQ.out.on hSw).all; go_simp; try with_reducible rfl)
          try simp only [Act.put, List.getElem_toArray, List.getElem_cons_zero, List.getElem_cons_succ, List.setIfInBounds_toArray, List.set_cons_zero, List.set_cons_succ]
          refine wpAnyH_take (i := 13) (v := ?_) rfl (by kernel_rfl) (by kernel_rfl) (by kernel_rfl) (fun _ _ _ h => h) (Or.inl ⟨by kernel_rfl, ?hy13⟩) (by assumption) ?_
          case hy13 => (intro w hSw; (try dsimp only at hSw); obtain ⟨t00, t01, t02, t03⟩ := (HA.out.on hSw).all; obtain ⟨t10, t11, t12, t13⟩ := (HB.out.on hSw).all; obtain ⟨t20, t21, t22, t23⟩ := (HP.out.on hSw).all; obtain ⟨t30, t31, t32, t33⟩ := (HQ.out.on hSw).all; go_simp; try with_reducible rfl)
          try simp only [Act.put, List.getElem_toArray, List.getElem_cons_zero, List.getElem_cons_succ, List.setIfInBounds_toArray, List.set_cons_zero, List.set_cons_succ]
          refine wpAnyH_take (i := 14) (v := ?_) rfl (by kernel_rfl) (by kernel_rfl) (by kernel_rfl) (fun _ _ _ h => h) (Or.inl ⟨by kernel_rfl, ?hy14⟩) (by assumption) ?_
          case hy14 => (intro w hSw; (try dsimp only at hSw); obtain ⟨t00, t01, t02, t03⟩ := (HA.out.on hSw).all; obtain ⟨t10, t11, t12, t13⟩ := (HB.out.on hSw).all; obtain ⟨t20, t21, t22, t23⟩ := (HP.out.on hSw).all; obtain ⟨t30, t31, t32, t33⟩ := (HQ.out.on hSw).all; go_simp; try with_reducible rfl)
          try simp only [Act.put, List.getElem_toArray, List.getElem_cons_zero, List.getElem_cons_succ, List.setIfInBounds_toArray, List.set_cons_zero, List.set_cons_succ]
          refine wpAnyH_take (i := 16) (v := ?_) rfl (by kernel_rfl) (by kernel_rfl) (by kernel_rfl) (fun _ _ _ h => h) (Or.inl ⟨by kernel_rfl, ?hy16⟩) (by assumption) ?_
          case hy16 => (intro w hSw; (try dsimp only at hSw); obtain ⟨t00, t01, t02, t03⟩ := (HA.out.on hSw).all; obtain ⟨t10, t11, t12, t13⟩ := (HB.out.on hSw).all; obtain ⟨t20, t21, t22, t23⟩ := (HP.out.on hSw).all; obtain ⟨t30, t31, t32, t33⟩ := (HQ.out.on hSw).all; go_simp; try with_reducible rfl)
          try simp only [Act.put, List.getElem_toArray, List.getElem_cons_zero, List.getElem_cons_succ, List.setIfInBounds_toArray, List.set_cons_zero, List.set_cons_succ]
          refine wpAnyH_ready (rs := [15]) (by kernel_rfl) (by simp) ?_
          refine AllReadyH.cons rfl (fun K hK => ?_) AllReadyH.nil
          go_simp
          go_wp2_with fail
          refine (F3.out _).mono ?_
          rintro e u215 ⟨rfl, hb⟩
          replace hHeld := Below.on hHeld hb
          refine hK.out _ _ hHeld (fun _ => ?_)
          clear hK K hb
          refine wpAnyH_take (i := 17) (v := ?_) rfl (by kernel_rfl) (by kernel_rfl) (by kernel_rfl) (fun _ _ _ h => h) (Or.inl ⟨by kernel_rfl, ?hy17⟩) (by assumption) ?_
          case hy17 => (intro w hSw; (try dsimp only at hSw); obtain ⟨t00, t01, t02, t03⟩ := (HA.out.on hSw).all; obtain ⟨t10, t11, t12, t13⟩ := (HB.out.on hSw).all; obtain ⟨t20, t21, t22, t23⟩ := (HP.out.on hSw).all; obtain ⟨t30, t31, t32, t33⟩ := (HQ.out.on hSw).all; go_simp; try with_reducible rfl)
          try simp only [Act.put, List.getElem_toArray, List.getElem_cons_zero, List.getElem_cons_succ, List.setIfInBounds_toArray, List.set_cons_zero, List.set_cons_succ]
          refine wpAnyH_take (i := 18) (v := ?_) rfl (by kernel_rfl) (by kernel_rfl) (by kernel_rfl) (fun _ _ _ h => h) (Or.inl ⟨by kernel_rfl, ?hy18⟩) (by assumption) ?_
          case hy18 => (intro w hSw; (try dsimp only at hSw); obtain ⟨t00, t01, t02, t03⟩ := (HA.out.on hSw).all; obtain ⟨t10, t11, t12, t13⟩ := (HB.out.on hSw).all; obtain ⟨t20, t21, t22, t23⟩ := (HP.out.on hSw).all; obtain ⟨t30, t31, t32, t33⟩ := (HQ.out.on hSw).all; go_simp; try with_reducible rfl)
          try simp only [Act.put, List.getElem_toArray, List.getElem_cons_zero, List.getElem_cons_succ, List.setIfInBounds_toArray, List.set_cons_zero, List.set_cons_succ]
          refine wpAnyH_take (i := 19) (v := ?_) rfl (by kernel_rfl) (by kernel_rfl) (by kernel_rfl) (fun _ _ _ h => h) (Or.inl ⟨by kernel_rfl, ?hy19⟩) (by assumption) ?_
          case hy19 => (intro w hSw; (try dsimp only at hSw); obtain ⟨t00, t01, t02, t03⟩ := (HA.out.on hSw).all; obtain ⟨t10, t11, t12, t13⟩ := (HB.out.on hSw).all; obtain ⟨t20, t21, t22, t23⟩ := (HP.out.on hSw).all; obtain ⟨t30, t31, t32, t33⟩ := (HQ.out.on hSw).all; go_simp; try with_reducible rfl)
          try simp only [Act.put, List.getElem_toArray, List.getElem_cons_zero, List.getElem_cons_succ, List.setIfInBounds_toArray, List.set_cons_zero, List.set_cons_succ]
          refine wpAnyH_take (i := 20) (v := ?_) rfl (by kernel_rfl) (by kernel_rfl) (by kernel_rfl) (fun _ _ _ h => h) (Or.inl ⟨by kernel_rfl, ?hy20⟩) (by assumption) ?_
          case hy20 => (intro w hSw; (try dsimp only at hSw); obtain ⟨t00, t01, t02, t03⟩ := (HA.out.on hSw).all; obtain ⟨t10, t11, t12, t13⟩ := (HB.out.on hSw).all; obtain ⟨t20, t21, t22, t23⟩ := (HP.out.on hSw).all; obtain ⟨t30, t31, t32, t33⟩ := (HQ.out.on hSw).all; go_simp; try with_reducible rfl)
          try simp only [Act.put, List.getElem_toArray, List.getElem_cons_zero, List.getElem_cons_succ, List.setIfInBounds_toArray, List.set_cons_zero, List.set_cons_succ]
          refine wpAnyH_take (i := 21) (v := ?_) rfl (by kernel_rfl) (by kernel_rfl) (by kernel_rfl) (fun _ _ _ h => h) (Or.inl ⟨by kernel_rfl, ?hy21⟩) (by assumption) ?_
          case hy21 => (intro w hSw; (try dsimp only at hSw); obtain ⟨t00, t01, t02, t03⟩ := (HA.out.on hSw).all; obtain ⟨t10, t11, t12, t13⟩ := (HB.out.on hSw).all; obtain ⟨t20, t21, t22, t23⟩ := (HP.out.on hSw).all; obtain ⟨t30, t31, t32, t33⟩ := (HQ.out.on hSw).all; go_simp; try with_reducible rfl)
          try simp only [Act.put, List.getElem_toArray, List.getElem_cons_zero, List.getElem_cons_succ, List.setIfInBounds_toArray, List.set_cons_zero, List.set_cons_succ]
          refine wpAnyH_take (i := 23) (v := ?_) rfl (by kernel_rfl) (by kernel_rfl) (by kernel_rfl) (fun _ _ _ h => h) (Or.inl ⟨by kernel_rfl, ?hy23⟩) (by assumption) ?_
          case hy23 => (intro w hSw; (try dsimp only at hSw); obtain ⟨t00, t01, t02, t03⟩ := (HA.out.on hSw).all; obtain ⟨t10, t11, t12, t13⟩ := (HB.out.on hSw).all; obtain ⟨t20, t21, t22, t23⟩ := (HP.out.on hSw).all; obtain ⟨t30, t31, t32, t33⟩ := (HQ.out.on hSw).all; go_simp; try with_reducible rfl)
          try simp only [Act.put, List.getElem_toArray, List.getElem_cons_zero, List.getElem_cons_succ, List.setIfInBounds_toArray, List.set_cons_zero, List.set_cons_succ]
          refine wpAnyH_ready (rs := [22]) (by kernel_rfl) (by simp) ?_
          refine AllReadyH.cons rfl (fun K hK => ?_) AllReadyH.nil
          go_simp
          go_wp2_with fail
          refine (F4.out _).mono ?_
          rintro e u222 ⟨rfl, hb⟩
          replace hHeld := Below.on hHeld hb
          refine hK.out _ _ hHeld (fun _ => ?_)
          clear hK K hb
          refine wpAnyH_take (i := 24) (v := ?_) rfl (by kernel_rfl) (by kernel_rfl) (by kernel_rfl) (fun _ _ _ h => h) (Or.inl ⟨by kernel_rfl, ?hy24⟩) (by assumption) ?_
          case hy24 => (intro w hSw; (try dsimp only at hSw); obtain ⟨t00, t01, t02, t03⟩ := (HA.out.on hSw).all; obtain ⟨t10, t11, t12, t13⟩ := (HB.out.on hSw).all; obtain ⟨t20, t21, t22, t23⟩ := (HP.out.on hSw).all; obtain ⟨t30, t31, t32, t33⟩ := (HQ.out.on hSw).all; go_simp; try with_reducible rfl)
          try simp only [Act.put, List.getElem_toArray, List.getElem_cons_zero, List.getElem_cons_succ, List.setIfInBounds_toArray, List.set_cons_zero, List.set_cons_succ]
          refine wpAnyH_take (i := 25) (v := ?_) rfl (by kernel_rfl) (by kernel_rfl) (by kernel_rfl) (fun _ _ _ h => h) (Or.inl ⟨by kernel_rfl, ?hy25⟩) (by assumption) ?_
          case hy25 => (intro w hSw; (try dsimp only at hSw); obtain ⟨t00, t01, t02, t03⟩ := (HA.out.on hSw).all; obtain ⟨t10, t11, t12, t13⟩ := (HB.out.on hSw).all; obtain ⟨t20, t21, t22, t23⟩ := (HP.out.on hSw).all; obtain ⟨t30, t31, t32, t33⟩ := (HQ.out.on hSw).all; go_simp; try with_reducible rfl)
          try simp only [Act.put, List.getElem_toArray, List.getElem_cons_zero, List.getElem_cons_succ, List.setIfInBounds_toArray, List.set_cons_zero, List.set_cons_succ]
          refine wpAnyH_take (i := 26) (v := ?_) rfl (by kernel_rfl) (by kernel_rfl) (by kernel_rfl) (fun _ _ _ h => h) (Or.inl ⟨by kernel_rfl, ?hy26⟩) (by assumption) ?_
          case hy26 => (intro w hSw; (try dsimp only at hSw); obtain ⟨t00, t01, t02, t03⟩ := (HA.out.on hSw).all; obtain ⟨t10, t11, t12, t13⟩ := (HB.out.on hSw).all; obtain ⟨t20, t21, t22, t23⟩ := (HP.out.on hSw).all; obtain ⟨t30, t31, t32, t33⟩ := (HQ.out.on hSw).all; go_simp; try with_reducible rfl)
          try simp only [Act.put, List.getElem_toArray, List.getElem_cons_zero, List.getElem_cons_succ, List.setIfInBounds_toArray, List.set_cons_zero, List.set_cons_succ]
          refine wpAnyH_take (i := 27) (v := ?_) rfl (by kernel_rfl) (by kernel_rfl) (by kernel_rfl) (fun _ _ _ h => h) (Or.inl ⟨by kernel_rfl, ?hy27⟩) (by assumption) ?_
          case hy27 => (intro w hSw; (try dsimp only at hSw); obtain ⟨t00, t01, t02, t03⟩ := (HA.out.on hSw).all; obtain ⟨t10, t11, t12, t13⟩ := (HB.out.on hSw).all; obtain ⟨t20, t21, t22, t23⟩ := (HP.out.on hSw).all; obtain ⟨t30, t31, t32, t33⟩ := (HQ.out.on hSw).all; go_simp; try with_reducible rfl)
          try simp only [Act.put, List.getElem_toArray, List.getElem_cons_zero, List.getElem_cons_succ, List.setIfInBounds_toArray, List.set_cons_zero, List.set_cons_succ]
          refine wpAnyH_take (i := 28) (v := ?_) rfl (by kernel_rfl) (by kernel_rfl) (by kernel_rfl) (fun _ _ _ h => h) (Or.inl ⟨by kernel_rfl, ?hy28⟩) (by assumption) ?_
          case hy28 => (intro w hSw; (try dsimp only at hSw); obtain ⟨t00, t01, t02, t03⟩ := (HA.out.on hSw).all; obtain ⟨t10, t11, t12, t13⟩ := (HB.out.on hSw).all; obtain ⟨t20, t21, t22, t23⟩ := (HP.out.on hSw).all; obtain ⟨t30, t31, t32, t33⟩ := (HQ.out.on hSw).all; go_simp; try with_reducible rfl)
          try simp only [Act.put, List.getElem_toArray, List.getElem_cons_zero, List.getElem_cons_succ, List.setIfInBounds_toArray, List.set_cons_zero, List.set_cons_succ]
          refine wpAnyH_take (i := 30) (v := ?_) rfl (by kernel_rfl) (by kernel_rfl) (by kernel_rfl) (fun _ _ _ h => h) (Or.inl ⟨by kernel_rfl, ?hy30⟩) (by assumption) ?_
          case hy30 => (intro w hSw; (try dsimp only at hSw); obtain ⟨t00, t01, t02, t03⟩ := (HA.out.on hSw).all; obtain ⟨t10, t11, t12, t13⟩ := (HB.out.on hSw).all; obtain ⟨t20, t21, t22, t23⟩ := (HP.out.on hSw).all; obtain ⟨t30, t31, t32, t33⟩ := (HQ.out.on hSw).all; go_simp; try with_reducible rfl)
          try simp only [Act.put, List.getElem_toArray, List.getElem_cons_zero, List.getElem_cons_succ, List.setIfInBounds_toArray, List.set_cons_zero, List.set_cons_succ]
          refine wpAnyH_ready (rs := [29]) (by kernel_rfl) (by simp) ?_
          refine AllReadyH.cons rfl (fun K hK => ?_) AllReadyH.nil
          go_simp
          go_wp2_with fail
          refine (F5.out _).mono ?_
          rintro e u229 ⟨rfl, hb⟩
          replace hHeld := Below.on hHeld hb
          refine hK.out _ _ hHeld (fun _ => ?_)
          clear hK K hb
          refine wpAnyH_take (i := 31) (v := ?_) rfl (by kernel_rfl) (by kernel_rfl) (by kernel_rfl) (fun _ _ _ h => h) (Or.inl ⟨by kernel_rfl, ?hy31⟩) (by assumption) ?_
          case hy31 => (intro w hSw; (try dsimp only at hSw); obtain ⟨t00, t01, t02, t03⟩ := (HA.out.on hSw).all; obtain ⟨t10, t11, t12, t13⟩ := (HB.out.on hSw).all; obtain ⟨t20, t21, t22, t23⟩ := (HP.out.on hSw).all; obtain ⟨t30, t31, t32, t33⟩ := (HQ.out.on hSw).all; go_simp; try with_reducible rfl)
          try simp only [Act.put, List.getElem_toArray, List.getElem_cons_zero, List.getElem_cons_succ, List.setIfInBounds_toArray, List.set_cons_zero, List.set_cons_succ]
          refine wpAnyH_take (i := 32) (v := ?_) rfl (by kernel_rfl) (by kernel_rfl) (by kernel_rfl) (fun _ _ _ h => h) (Or.inl ⟨by kernel_rfl, ?hy32⟩) (by assumption) ?_
          case hy32 => (intro w hSw; (try dsimp only at hSw); obtain ⟨t00, t01, t02, t03⟩ := (HA.out.on hSw).all; obtain ⟨t10, t11, t12, t13⟩ := (HB.out.on hSw).all; obtain ⟨t20, t21, t22, t23⟩ := (HP.out.on hSw).all; obtain ⟨t30, t31, t32, t33⟩ := (HQ.out.on hSw).all; go_simp; try with_reducible rfl)
          try simp only [Act.put, List.getElem_toArray, List.getElem_cons_zero, List.getElem_cons_succ, List.setIfInBounds_toArray, List.set_cons_zero, List.set_cons_succ]
          refine wpAnyH_take (i := 33) (v := ?_) rfl (by kernel_rfl) (by kernel_rfl) (by kernel_rfl) (fun _ _ _ h => h) (Or.inl ⟨by kernel_rfl, ?hy33⟩) (by assumption) ?_
          case hy33 => (intro w hSw; (try dsimp only at hSw); obtain ⟨t00, t01, t02, t03⟩ := (HA.out.on hSw).all; obtain ⟨t10, t11, t12, t13⟩ := (HB.out.on hSw).all; obtain ⟨t20, t21, t22, t23⟩ := (HP.out.on hSw).all; obtain ⟨t30, t31, t32, t33⟩ := (HQ.out.on hSw).all; go_simp; try with_reducible rfl)
          try simp only [Act.put, List.getElem_toArray, List.getElem_cons_zero, List.getElem_cons_succ, List.setIfInBounds_toArray, List.set_cons_zero, List.set_cons_succ]
          refine wpAnyH_take (i := 34) (v := ?_) rfl (by kernel_rfl) (by kernel_rfl) (by kernel_rfl) (fun _ _ _ h => h) (Or.inl ⟨by kernel_rfl, ?hy34⟩) (by assumption) ?_
          case hy34 => (intro w hSw; (try dsimp only at hSw); obtain ⟨t00, t01, t02, t03⟩ := (HA.out.on hSw).all; obtain ⟨t10, t11, t12, t13⟩ := (HB.out.on hSw).all; obtain ⟨t20, t21, t22, t23⟩ := (HP.out.on hSw).all; obtain ⟨t30, t31, t32, t33⟩ := (HQ.out.on hSw).all; go_simp; try with_reducible rfl)
          try simp only [Act.put, List.getElem_toArray, List.getElem_cons_zero, List.getElem_cons_succ, List.setIfInBounds_toArray, List.set_cons_zero, List.set_cons_succ]
          refine wpAnyH_ready (rs := [35]) (by kernel_rfl) (by simp) ?_
          refine AllReadyH.cons rfl (fun K hK => ?_) AllReadyH.nil
          go_simp
          go_wp2_with fail
          refine (F6.out _).mono ?_
          rintro e u235 ⟨rfl, hb⟩
          replace hHeld := Below.on hHeld hb
          refine hK.out _ _ hHeld (fun _ => ?_)
          clear hK K hb
          refine wpAnyH_take (i := 36) (v := ?_) rfl (by kernel_rfl) (by kernel_rfl) (by kernel_rfl) (fun _ _ _ h => h) (Or.inl ⟨by kernel_rfl, ?hy36⟩) (by assumption) ?_
          case hy36 => (intro w hSw; (try dsimp only at hSw); obtain ⟨t00, t01, t02, t03⟩ := (HA.out.on hSw).all; obtain ⟨t10, t11, t12, t13⟩ := (HB.out.on hSw).all; obtain ⟨t20, t21, t22, t23⟩ := (HP.out.on hSw).all; obtain ⟨t30, t31, t32, t33⟩ := (HQ.out.on hSw).all; go_simp; try with_reducible rfl)
          try simp only [Act.put, List.getElem_toArray, List.getElem_cons_zero, List.getElem_cons_succ, List.setIfInBounds_toArray, List.set_cons_zero, List.set_cons_succ]
          refine wpAnyH_take (i := 37) (v := ?_) rfl (by kernel_rfl) (by kernel_rfl) (by kernel_rfl) (fun _ _ _ h => h) (Or.inl ⟨by kernel_rfl, ?hy37⟩) (by assumption) ?_
          case hy37 => (intro w hSw; (try dsimp only at hSw); obtain ⟨t00, t01, t02, t03⟩ := (HA.out.on hSw).all; obtain ⟨t10, t11, t12, t13⟩ := (HB.out.on hSw).all; obtain ⟨t20, t21, t22, t23⟩ := (HP.out.on hSw).all; obtain ⟨t30, t31, t32, t33⟩ := (HQ.out.on hSw).all; go_simp; try with_reducible rfl)
          try simp only [Act.put, List.getElem_toArray, List.getElem_cons_zero, List.getElem_cons_succ, List.setIfInBounds_toArray, List.set_cons_zero, List.set_cons_succ]
          refine wpAnyH_take (i := 38) (v := ?_) rfl (by kernel_rfl) (by kernel_rfl) (by kernel_rfl) (fun _ _ _ h => h) (Or.inl ⟨by kernel_rfl, ?hy38⟩) (by assumption) ?_
          case hy38 => (intro w hSw; (try dsimp only at hSw); obtain ⟨t00, t01, t02, t03⟩ := (HA.out.on hSw).all; obtain ⟨t10, t11, t12, t13⟩ := (HB.out.on hSw).all; obtain ⟨t20, t21, t22, t23⟩ := (HP.out.on hSw).all; obtain ⟨t30, t31, t32, t33⟩ := (HQ.out.on hSw).all; go_simp; try with_reducible rfl)
          try simp only [Act.put, List.getElem_toArray, List.getElem_cons_zero, List.getElem_cons_succ, List.setIfInBounds_toArray, List.set_cons_zero, List.set_cons_succ]
          refine wpAnyH_take (i := 39) (v := ?_) rfl (by kernel_rfl) (by kernel_rfl) (by kernel_rfl) (fun _ _ _ h => h) (Or.inl ⟨by kernel_rfl, ?hy39⟩) (by assumption) ?_
          case hy39 => (intro w hSw; (try dsimp only at hSw); obtain ⟨t00, t01, t02, t03⟩ := (HA.out.on hSw).all; obtain ⟨t10, t11, t12, t13⟩ := (HB.out.on hSw).all; obtain ⟨t20, t21, t22, t23⟩ := (HP.out.on hSw).all; obtain ⟨t30, t31, t32, t33⟩ := (HQ.out.on hSw).all; go_simp; try with_reducible rfl)
          try simp only [Act.put, List.getElem_toArray, List.getElem_cons_zero, List.getElem_cons_succ, List.setIfInBounds_toArray, List.set_cons_zero, List.set_cons_succ]
          refine wpAnyH_take (i := 40) (v := ?_) rfl (by kernel_rfl) (by kernel_rfl) (by kernel_rfl) (fun _ _ _ h => h) (Or.inl ⟨by kernel_rfl, ?hy40⟩) (by assumption) ?_
          case hy40 => (intro w hSw; (try dsimp only at hSw); obtain ⟨t00, t01, t02, t03⟩ := (HA.out.on hSw).all; obtain ⟨t10, t11, t12, t13⟩ := (HB.out.on hSw).all; obtain ⟨t20, t21, t22, t23⟩ := (HP.out.on hSw).all; obtain ⟨t30, t31, t32, t33⟩ := (HQ.out.on hSw).all; go_simp; try with_reducible rfl)
          try simp only [Act.put, List.getElem_toArray, List.getElem_cons_zero, List.getElem_cons_succ, List.setIfInBounds_toArray, List.set_cons_zero, List.set_cons_succ]
          refine wpAnyH_take (i := 41) (v := ?_) rfl (by kernel_rfl) (by kernel_rfl) (by kernel_rfl) (fun _ _ _ h => h) (Or.inl ⟨by kernel_rfl, ?hy41⟩) (by assumption) ?_
          case hy41 => (intro w hSw; (try dsimp only at hSw); obtain ⟨t00, t01, t02, t03⟩ := (HA.out.on hSw).all; obtain ⟨t10, t11, t12, t13⟩ := (HB.out.on hSw).all; obtain ⟨t20, t21, t22, t23⟩ := (HP.out.on hSw).all; obtain ⟨t30, t31, t32, t33⟩ := (HQ.out.on hSw).all; go_simp; try with_reducible rfl)
          try simp only [Act.put, List.getElem_toArray, List.getElem_cons_zero, List.getElem_cons_succ, List.setIfInBounds_toArray, List.set_cons_zero, List.set_cons_succ]
          refine wpAnyH_take (i := 42) (v := undef) rfl (by kernel_rfl) (by kernel_rfl) (by kernel_rfl) (fun _ _ _ h => h) (Or.inr ⟨by kernel_rfl, rfl⟩) (by assumption) ?_
          try simp only [Act.put, List.getElem_toArray, List.getElem_cons_zero, List.getElem_cons_succ, List.setIfInBounds_toArray, List.set_cons_zero, List.set_cons_succ]
          refine wpAnyH_take (i := 43) (v := undef) rfl (by kernel_rfl) (by kernel_rfl) (by kernel_rfl) (fun _ _ _ h => h) (Or.inr ⟨by kernel_rfl, rfl⟩) (by assumption) ?_
          try simp only [Act.put, List.getElem_toArray, List.getElem_cons_zero, List.getElem_cons_succ, List.setIfInBounds_toArray, List.set_cons_zero, List.set_cons_succ]
          refine wpAnyH_take (i := 44) (v := undef) rfl (by kernel_rfl) (by kernel_rfl) (by kernel_rfl) (fun _ _ _ h => h) (Or.inr ⟨by kernel_rfl, rfl⟩) (by assumption) ?_
          try simp only [Act.put, List.getElem_toArray, List.getElem_cons_zero, List.getElem_cons_succ, List.setIfInBounds_toArray, List.set_cons_zero, List.set_cons_succ]
          refine wpAnyH_take (i := 45) (v := undef) rfl (by kernel_rfl) (by kernel_rfl) (by kernel_rfl) (fun _ _ _ h => h) (Or.inr ⟨by kernel_rfl, rfl⟩) (by assumption) ?_
          try simp only [Act.put, List.getElem_toArray, List.getElem_cons_zero, List.getElem_cons_succ, List.setIfInBounds_toArray, List.set_cons_zero, List.set_cons_succ]
          refine wpAnyH_take (i := 46) (v := undef) rfl (by kernel_rfl) (by kernel_rfl) (by kernel_rfl) (fun _ _ _ h => h) (Or.inr ⟨by kernel_rfl, rfl⟩) (by assumption) ?_
          try simp only [Act.put, List.getElem_toArray, List.getElem_cons_zero, List.getElem_cons_succ, List.setIfInBounds_toArray, List.set_cons_zero, List.set_cons_succ]
          refine wpAnyH_take (i := 47) (v := ?_) rfl (by kernel_rfl) (by kernel_rfl) (by kernel_rfl) (fun _ _ _ h => h) (Or.inl ⟨by kernel_rfl, ?hy47⟩) (by assumption) ?_
          case hy47 => (intro w hSw; (try dsimp only at hSw); obtain ⟨t00, t01, t02, t03⟩ := (HA.out.on hSw).all; obtain ⟨t10, t11, t12, t13⟩ := (HB.out.on hSw).all; obtain ⟨t20, t21, t22, t23⟩ := (HP.out.on hSw).all; obtain ⟨t30, t31, t32, t33⟩ := (HQ.out.on hSw).all; go_simp; try with_reducible rfl)
          try simp only [Act.put, List.getElem_toArray, List.getElem_cons_zero, List.getElem_cons_succ, List.setIfInBounds_toArray, List.set_cons_zero, List.set_cons_succ]
          refine wpAnyH_take (i := 48) (v := ?_) rfl (by kernel_rfl) (by kernel_rfl) (by kernel_rfl) (fun _ _ _ h => h) (Or.inl ⟨by kernel_rfl, ?hy48⟩) (by assumption) ?_
          case hy48 => (intro w hSw; (try dsimp only at hSw); obtain ⟨t00, t01, t02, t03⟩ := (HA.out.on hSw).all; obtain ⟨t10, t11, t12, t13⟩ := (HB.out.on hSw).all; obtain ⟨t20, t21, t22, t23⟩ := (HP.out.on hSw).all; obtain ⟨t30, t31, t32, t33⟩ := (HQ.out.on hSw).all; go_simp; try with_reducible rfl)
          try simp only [Act.put, List.getElem_toArray, List.getElem_cons_zero, List.getElem_cons_succ, List.setIfInBounds_toArray, List.set_cons_zero, List.set_cons_succ]
          refine wpAnyH_take (i := 49) (v := ?_) rfl (by kernel_rfl) (by kernel_rfl) (by kernel_rfl) (fun _ _ _ h => h) (Or.inl ⟨by kernel_rfl, ?hy49⟩) (by assumption) ?_
          case hy49 => (intro w hSw; (try dsimp only at hSw); obtain ⟨t00, t01, t02, t03⟩ := (HA.out.on hSw).all; obtain ⟨t10, t11, t12, t13⟩ := (HB.out.on hSw).all; obtain ⟨t20, t21, t22, t23⟩ := (HP.out.on hSw).all; obtain ⟨t30, t31, t32, t33⟩ := (HQ.out.on hSw).all; go_simp; try with_reducible rfl)
          try simp only [Act.put, List.getElem_toArray, List.getElem_cons_zero, List.getElem_cons_succ, List.setIfInBounds_toArray, List.set_cons_zero, List.set_cons_succ]
          refine wpAnyH_take (i := 50) (v := ?_) rfl (by kernel_rfl) (by kernel_rfl) (by kernel_rfl) (fun _ _ _ h => h) (Or.inl ⟨by kernel_rfl, ?hy50⟩) (by assumption) ?_
          case hy50 => (intro w hSw; (try dsimp only at hSw); obtain ⟨t00, t01, t02, t03⟩ := (HA.out.on hSw).all; obtain ⟨t10, t11, t12, t13⟩ := (HB.out.on hSw).all; obtain ⟨t20, t21, t22, t23⟩ := (HP.out.on hSw).all; obtain ⟨t30, t31, t32, t33⟩ := (HQ.out.on hSw).all; go_simp; try with_reducible rfl)
          try simp only [Act.put, List.getElem_toArray, List.getElem_cons_zero, List.getElem_cons_succ, List.setIfInBounds_toArray, List.set_cons_zero, List.set_cons_succ]
          refine wpAnyH_take (i := 52) (v := ?_) rfl (by kernel_rfl) (by kernel_rfl) (by kernel_rfl) (fun _ _ _ h => h) (Or.inl ⟨by kernel_rfl, ?hy52⟩) (by assumption) ?_
          case hy52 => (intro w hSw; (try dsimp only at hSw); obtain ⟨t00, t01, t02, t03⟩ := (HA.out.on hSw).all; obtain ⟨t10, t11, t12, t13⟩ := (HB.out.on hSw).all; obtain ⟨t20, t21, t22, t23⟩ := (HP.out.on hSw).all; obtain ⟨t30, t31, t32, t33⟩ := (HQ.out.on hSw).all; go_simp; try with_reducible rfl)
          try simp only [Act.put, List.getElem_toArray, List.getElem_cons_zero, List.getElem_cons_succ, List.setIfInBounds_toArray, List.set_cons_zero, List.set_cons_succ]
          refine wpAnyH_ready (rs := [51]) (by kernel_rfl) (by simp) ?_
          refine AllReadyH.cons rfl (fun K hK => ?_) AllReadyH.nil
          go_simp
          go_wp2_with fail
          refine (F8.out _).mono ?_
          rintro e u251 ⟨rfl, hb⟩
          replace hHeld := Below.on hHeld hb
          refine hK.out _ _ hHeld (fun _ => ?_)
          clear hK K hb
          refine wpAnyH_take (i := 53) (v := ?_) rfl (by kernel_rfl) (by kernel_rfl) (by kernel_rfl) (fun _ _ _ h => h) (Or.inl ⟨by kernel_rfl, ?hy53⟩) (by assumption) ?_
          case hy53 => (intro w hSw; (try dsimp only at hSw); obtain ⟨t00, t01, t02, t03⟩ := (HA.out.on hSw).all; obtain ⟨t10, t11, t12, t13⟩ := (HB.out.on hSw).all; obtain ⟨t20, t21, t22, t23⟩ := (HP.out.on hSw).all; obtain ⟨t30, t31, t32, t33⟩ := (HQ.out.on hSw).all; go_simp; try with_reducible rfl)
          try simp only [Act.put, List.getElem_toArray, List.getElem_cons_zero, List.getElem_cons_succ, List.setIfInBounds_toArray, List.set_cons_zero, List.set_cons_succ]
          refine wpAnyH_take (i := 54) (v := ?_) rfl (by kernel_rfl) (by kernel_rfl) (by kernel_rfl) (fun _ _ _ h => h) (Or.inl ⟨by kernel_rfl, ?hy54⟩) (by assumption) ?_
          case hy54 => (intro w hSw; (try dsimp only at hSw); obtain ⟨t00, t01, t02, t03⟩ := (HA.out.on hSw).all; obtain ⟨t10, t11, t12, t13⟩ := (HB.out.on hSw).all; obtain ⟨t20, t21, t22, t23⟩ := (HP.out.on hSw).all; obtain ⟨t30, t31, t32, t33⟩ := (HQ.out.on hSw).all; go_simp; try with_reducible rfl)
          try simp only [Act.put, List.getElem_toArray, List.getElem_cons_zero, List.getElem_cons_succ, List.setIfInBounds_toArray, List.set_cons_zero, List.set_cons_succ]
          refine wpAnyH_take (i := 55) (v := ?_) rfl (by kernel_rfl) (by kernel_rfl) (by kernel_rfl) (fun _ _ _ h => h) (Or.inl ⟨by kernel_rfl, ?hy55⟩) (by assumption) ?_
          case hy55 => (intro w hSw; (try dsimp only at hSw); obtain ⟨t00, t01, t02, t03⟩ := (HA.out.on hSw).all; obtain ⟨t10, t11, t12, t13⟩ := (HB.out.on hSw).all; obtain ⟨t20, t21, t22, t23⟩ := (HP.out.on hSw).all; obtain ⟨t30, t31, t32, t33⟩ := (HQ.out.on hSw).all; go_simp; try with_reducible rfl)
          try simp only [Act.put, List.getElem_toArray, List.getElem_cons_zero, List.getElem_cons_succ, List.setIfInBounds_toArray, List.set_cons_zero, List.set_cons_succ]
          refine wpAnyH_take (i := 56) (v := ?_) rfl (by kernel_rfl) (by kernel_rfl) (by kernel_rfl) (fun _ _ _ h => h) (Or.inl ⟨by kernel_rfl, ?hy56⟩) (by assumption) ?_
          case hy56 => (intro w hSw; (try dsimp only at hSw); obtain ⟨t00, t01, t02, t03⟩ := (HA.out.on hSw).all; obtain ⟨t10, t11, t12, t13⟩ := (HB.out.on hSw).all; obtain ⟨t20, t21, t22, t23⟩ := (HP.out.on hSw).all; obtain ⟨t30, t31, t32, t33⟩ := (HQ.out.on hSw).all; go_simp; try with_reducible rfl)
          try simp only [Act.put, List.getElem_toArray, List.getElem_cons_zero, List.getElem_cons_succ, List.setIfInBounds_toArray, List.set_cons_zero, List.set_cons_succ]
          refine wpAnyH_ready (rs := [57]) (by kernel_rfl) (by simp) ?_
          refine AllReadyH.cons rfl (fun K hK => ?_) AllReadyH.nil
          go_simp
          go_wp2_with fail
          refine (F9.out _).mono ?_
          rintro e u257 ⟨rfl, hb⟩
          replace hHeld := Below.on hHeld hb
          refine hK.out _ _ hHeld (fun _ => ?_)
          clear hK K hb
          refine wpAnyH_take (i := 58) (v := ?_) rfl (by kernel_rfl) (by kernel_rfl) (by kernel_rfl) (fun _ _ _ h => h) (Or.inl ⟨by kernel_rfl, ?hy58⟩) (by assumption) ?_
          case hy58 => (intro w hSw; (try dsimp only at hSw); obtain ⟨t00, t01, t02, t03⟩ := (HA.out.on hSw).all; obtain ⟨t10, t11, t12, t13⟩ := (HB.out.on hSw).all; obtain ⟨t20, t21, t22, t23⟩ := (HP.out.on hSw).all; obtain ⟨t30, t31, t32, t33⟩ := (HQ.out.on hSw).all; go_simp; try with_reducible rfl)
          try simp only [Act.put, List.getElem_toArray, List.getElem_cons_zero, List.getElem_cons_succ, List.setIfInBounds_toArray, List.set_cons_zero, List.set_cons_succ]
          refine wpAnyH_take (i := 59) (v := ?_) rfl (by kernel_rfl) (by kernel_rfl) (by kernel_rfl) (fun _ _ _ h => h) (Or.inl ⟨by kernel_rfl, ?hy59⟩) (by assumption) ?_
          case hy59 => (intro w hSw; (try dsimp only at hSw); obtain ⟨t00, t01, t02, t03⟩ := (HA.out.on hSw).all; obtain ⟨t10, t11, t12, t13⟩ := (HB.out.on hSw).all; obtain ⟨t20, t21, t22, t23⟩ := (HP.out.on hSw).all; obtain ⟨t30, t31, t32, t33⟩ := (HQ.out.on hSw).all; go_simp; try with_reducible rfl)
          try simp only [Act.put, List.getElem_toArray, List.getElem_cons_zero, List.getElem_cons_succ, List.setIfInBounds_toArray, List.set_cons_zero, List.set_cons_succ]
          refine wpAnyH_ready (rs := [60]) (by kernel_rfl) (by simp) ?_
          refine AllReadyH.cons rfl (fun K hK => ?_) AllReadyH.nil
          go_simp
          go_wp2_with fail
          refine (FA.out _).mono ?_
          rintro e u260 ⟨rfl, hb⟩
          replace hHeld := Below.on hHeld hb
          refine hK.out _ _ hHeld (fun _ => ?_)
          clear hK K hb
          refine wpAnyH_take (i := 61) (v := ?_) rfl (by kernel_rfl) (by kernel_rfl) (by kernel_rfl) (fun _ _ _ h => h) (Or.inl ⟨by kernel_rfl, ?hy61⟩) (by assumption) ?_
          case hy61 => (intro w hSw; (try dsimp only at hSw); obtain ⟨t00, t01, t02, t03⟩ := (HA.out.on hSw).all; obtain ⟨t10, t11, t12, t13⟩ := (HB.out.on hSw).all; obtain ⟨t20, t21, t22, t23⟩ := (HP.out.on hSw).all; obtain ⟨t30, t31, t32, t33⟩ := (HQ.out.on hSw).all; go_simp; try with_reducible rfl)
          try simp only [Act.put, List.getElem_toArray, List.getElem_cons_zero, List.getElem_cons_succ, List.setIfInBounds_toArray, List.set_cons_zero, List.set_cons_succ]
          refine wpAnyH_take (i := 62) (v := ?_) rfl (by kernel_rfl) (by kernel_rfl) (by kernel_rfl) (fun _ _ _ h => h) (Or.inl ⟨by kernel_rfl, ?hy62⟩) (by assumption) ?_
          case hy62 => (intro w hSw; (try dsimp only at hSw); obtain ⟨t00, t01, t02, t03⟩ := (HA.out.on hSw).all; obtain ⟨t10, t11, t12, t13⟩ := (HB.out.on hSw).all; obtain ⟨t20, t21, t22, t23⟩ := (HP.out.on hSw).all; obtain ⟨t30, t31, t32, t33⟩ := (HQ.out.on hSw).all; go_simp; try with_reducible rfl)
          try simp only [Act.put, List.getElem_toArray, List.getElem_cons_zero, List.getElem_cons_succ, List.setIfInBounds_toArray, List.set_cons_zero, List.set_cons_succ]
          refine wpAnyH_done (by kernel_rfl) ?_ _
          go_wp2
          go_ret
          exact ⟨rfl, Below.on HW.out hHeld⟩

theorem walk (x0 y0 z0 u0 x1 y1 z1 u1 : Int) (w : World) (h0 : ∀ k ∈ [x0, y0, z0, u0], (Lit.int .i64 k).wf = true) (h1 : ∀ k ∈ [x1, y1, z1, u1], (Lit.int .i64 k).wf = true) :
    Calls Try.prog 5 #[.agg #[.int .i64 x0, .int .i64 y0, .int .i64 z0, .int .i64 u0], .agg #[.int .i64 x1, .int .i64 y1, .int .i64 z1, .int .i64 u1]] w fun e w' => e = .returned (.bool true) ∧ Below w.heap.size w w' :=
  core ⟨x0, y0, z0, u0⟩ ⟨x1, y1, z1, u1⟩ (ok4 h0) (ok4 h1) w
end Go.Proofs.Ythencokiobakdaa.rectOrder
