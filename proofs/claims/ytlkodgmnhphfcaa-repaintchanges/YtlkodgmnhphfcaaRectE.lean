/- The contract of the program's Cover. -/
import Derived.Test.YtlkodgmnhphfcaaRectD
namespace Go.Proofs.Ytlkodgmnhphfcaa
open Go Go.RowKit

def cvr (a b : Rc) : Rc := ⟨min a.x b.x, min a.y b.y, max (en a.x a.w) (en b.x b.w) - min a.x b.x, max (en a.y a.h) (en b.y b.h) - min a.y b.y⟩
/-- The cover. -/
def cov (a b : Rc) : Rc := if emp a = true then pln b else if emp b = true then a else cvr a b

theorem cov_emp1 {a : Rc} (h : emp a = true) (b : Rc) : cov a b = pln b := by rw [cov, if_pos h]
theorem cov_emp2 {a b : Rc} (h : emp a = false) (h' : emp b = true) : cov a b = a := by rw [cov, if_neg (by rw [h]; decide), if_pos h']
theorem cov_full {a b : Rc} (h : emp a = false) (h' : emp b = false) : cov a b = cvr a b := by rw [cov, if_neg (by rw [h]; decide), if_neg (by rw [h']; decide)]
theorem rceq_full {a : Rc} (h : emp a = false) : rceq a rz = false := by
  have hw := (sizes h).1
  have : ¬ a.w = 0 := by omega
  simp [rceq, rz, this]

theorem obj_on {u : World} {p : Nat} {cs : Array Value} {T : TypeId} (h : u.heap[p]? = some (.cells cs T (0, 0))) (o : Obj) : (u.alloc o).heap[p]? = some (.cells cs T (0, 0)) := by
  rw [Below.heap_alloc u o p (Array.getElem?_eq_some_iff.1 h).1]
  exact h

/-- What a store of a rectangle asks for, behind one more block. -/
theorem Bx.stores {u : World} {p : Nat} {a : Rc} (h : Bx u p a) :
    (∀ o, (u.alloc o).cell? ⟨p, 0, none⟩ = some (.int .i64 a.x)) ∧ (∀ o, (u.alloc o).frozen? ⟨p, 0, none⟩ = false) ∧
    (∀ v o, ((u.setCell ⟨p, 0, none⟩ v).alloc o).cell? ⟨p, 1, none⟩ = some (.int .i64 a.y)) ∧ (∀ v o, ((u.setCell ⟨p, 0, none⟩ v).alloc o).frozen? ⟨p, 1, none⟩ = false) ∧
    (∀ v v' o, (((u.setCell ⟨p, 0, none⟩ v).setCell ⟨p, 1, none⟩ v').alloc o).cell? ⟨p, 2, none⟩ = some (.int .i64 a.w)) ∧ (∀ v v' o, (((u.setCell ⟨p, 0, none⟩ v).setCell ⟨p, 1, none⟩ v').alloc o).frozen? ⟨p, 2, none⟩ = false) ∧
    (∀ v v' v'' o, ((((u.setCell ⟨p, 0, none⟩ v).setCell ⟨p, 1, none⟩ v').setCell ⟨p, 2, none⟩ v'').alloc o).cell? ⟨p, 3, none⟩ = some (.int .i64 a.h)) ∧ (∀ v v' v'' o, ((((u.setCell ⟨p, 0, none⟩ v).setCell ⟨p, 1, none⟩ v').setCell ⟨p, 2, none⟩ v'').alloc o).frozen? ⟨p, 3, none⟩ = false) := by
  have h0 := h.obj
  have h1 := fun v => heap_setCell_same u p 0 _ _ v h0
  have h2 := fun v v' => heap_setCell_same _ p 1 _ _ v' (h1 v)
  have h3 := fun v v' v'' => heap_setCell_same _ p 2 _ _ v'' (h2 v v')
  refine ⟨fun o => ?_, fun o => Lib.frozen_of_heap (obj_on h0 o) 0, fun v o => ?_, fun v o => Lib.frozen_of_heap (obj_on (h1 v) o) 1, fun v v' o => ?_, fun v v' o => Lib.frozen_of_heap (obj_on (h2 v v') o) 2, fun v v' v'' o => ?_, fun v v' v'' o => Lib.frozen_of_heap (obj_on (h3 v v' v'') o) 3⟩
  · rw [World.cell?, obj_on h0 o]; rfl
  · rw [World.cell?, obj_on (h1 v) o]; rfl
  · rw [World.cell?, obj_on (h2 v v') o]; rfl
  · rw [World.cell?, obj_on (h3 v v' v'') o]; rfl

set_option maxRecDepth 100000 in
set_option maxHeartbeats 1000000 in
theorem cover_any (a b : Rc) (ha : a.Ok) (hb : b.Ok) (hd : emp a = false → emp b = false → (cvr a b).Ok) (w : World) : Calls Try.prog 60 #[.agg #[.int .i64 a.x, .int .i64 a.y, .int .i64 a.w, .int .i64 a.h], .agg #[.int .i64 b.x, .int .i64 b.y, .int .i64 b.w, .int .i64 b.h]] w fun e w' => e = .returned (.agg #[.int .i64 (cov a b).x, .int .i64 (cov a b).y, .int .i64 (cov a b).w, .int .i64 (cov a b).h]) ∧ Below w.heap.size w w' := by
  have CA := hid (fun w => plain_any a w)
  have CB := hid (fun w => plain_any b w)
  have hg := eqlR_guard
  go_enter Try.func60, Try.ntmps60
  go_upto_region 1 with fail
  go_cut [] (fun wc => Bx wc w.heap.size (pln a) ∧ Bx wc (w.heap.size + 1) (pln b) ∧ Bx wc (w.heap.size + 1 + 1) rz ∧ Below w.heap.size w wc)
  case first =>
    go_region_with (first | (go_at_call 70; refine (CA.out _).mono ?_; rintro e u ⟨rfl, hb1⟩; obtain ⟨hA, hB, hR, hw⟩ := box3 a b rz (Below.on (Below.refl _ _).drew hb1); obtain ⟨c0, c1, c2, c3⟩ := hB.all) | (go_at_call 70; refine (CB.out _).mono ?_; rintro e v ⟨rfl, hb2⟩; have hA2 := hA.on hb2; have hB2 := hB.on hb2; have hR2 := hR.on hb2; have hw2 := Below.on hw hb2; clear hA hB hR hw c0 c1 c2 c3; obtain ⟨c0, c1, c2, c3⟩ := hA2.all; obtain ⟨d0, d1, d2, d3⟩ := hB2.all; have f0 := hA2.fz; have f1 := hB2.fz))
    all_goals
      go_wp2_with fail
      go_meet
      exact ⟨(hA2.st (pln a)).st_other (by omega) (pln b), (hB2.st_other (by omega) (pln a)).st (pln b), (hR2.st_other (by omega) (pln a)).st_other (by omega) (pln b), below_st (below_st hw2 (Nat.le_refl _) (pln a)) (by omega) (pln b)⟩
  case rest =>
    obtain ⟨hA, hB, hR, hw⟩ := hcut
    clear CA CB
    have HR := hid hR
    have HW := hid hw
    have aA := fun o => (hA.on (below_new wc o)).all
    have aB := fun o => (hB.on (below_new wc o)).all
    have a0 := fun o => (aA o).1
    have a1 := fun o => (aA o).2.1
    have a2 := fun o => (aA o).2.2.1
    have a3 := fun o => (aA o).2.2.2
    have b0 := fun o => (aB o).1
    have b1 := fun o => (aB o).2.1
    have b2 := fun o => (aB o).2.2.1
    have b3 := fun o => (aB o).2.2.2
    obtain ⟨r0, f0, r1, f1, r2, f2, r3, f3⟩ := hR.stores
    have ltR := hR.lt
    clear aA aB
    have q1 := eqlR (pln a) rz
    have q2 := eqlR (pln b) rz
    clear hw
    simp only [rz] at q1 q2
    cases he : emp a
    · have v1 : rceq (pln a) ⟨0, 0, 0, 0⟩ = false := by rw [pln_full he]; exact rceq_full he
      rw [v1] at q1
      cases hf : emp b
      · have v2 : rceq (pln b) ⟨0, 0, 0, 0⟩ = false := by rw [pln_full hf]; exact rceq_full hf
        rw [v2] at q2
        obtain ⟨z1, z2⟩ := sizes he
        obtain ⟨z3, z4⟩ := sizes hf
        have hdd := hd he hf
        have g1 := hdd.w
        have g2 := hdd.h
        simp only [cvr] at g1 g2
        rw [pln_full he] at hA q1 a0 a1 a2 a3
        rw [pln_full hf] at hB q2 b0 b1 b2 b3
        have C1 := hid (fun w => end_any a.x a.w ha.x ⟨z1, ha.w.2⟩ w)
        have C2 := hid (fun w => end_any b.x b.w hb.x ⟨z3, hb.w.2⟩ w)
        have C3 := hid (fun w => end_any a.y a.h ha.y ⟨z2, ha.h.2⟩ w)
        have C4 := hid (fun w => end_any b.y b.h hb.y ⟨z4, hb.h.2⟩ w)
        have HC := hid (cov_full he hf)
        have HA1 := hid (hA.on (below_new wc (.cells #[.int .i64 0, .int .i64 0, .int .i64 0, .int .i64 0] 36)))
        have HB1 := hid (hB.on (below_new wc (.cells #[.int .i64 0, .int .i64 0, .int .i64 0, .int .i64 0] 36)))
        have HA2 := hid HA1.out.drew
        have HB2 := hid HB1.out.drew
        clear z1 z2 z3 z4 hdd ha hb hd v1 v2 hA hB hR he hf
        go_upto_region 7 with fail
        refine wp_region_held_drew (S := fun x => Below (wc.alloc (.cells #[.int .i64 0, .int .i64 0, .int .i64 0, .int .i64 0] 36)).heap.size (wc.alloc (.cells #[.int .i64 0, .int .i64 0, .int .i64 0, .int .i64 0] 36)) x) (by kernel_rfl) (Below.refl _ _).drew (fun hHeld => ?_)
        have hHeld : Below (wc.alloc (.cells #[.int .i64 0, .int .i64 0, .int .i64 0, .int .i64 0] 36)).heap.size (wc.alloc (.cells #[.int .i64 0, .int .i64 0, .int .i64 0, .int .i64 0] 36)) (wc.alloc (.cells #[.int .i64 0, .int .i64 0, .int .i64 0, .int .i64 0] 36)).drew := hHeld
        refine wpAnyH_take (i := 0) (v := ?_) rfl (by kernel_rfl) (by kernel_rfl) (by kernel_rfl) (fun _ _ _ h => h) (Or.inl ⟨by kernel_rfl, ?hy0⟩) (by assumption) ?_
        case hy0 => (intro w hSw; (try dsimp only at hSw); obtain ⟨t00, t01, t02, t03⟩ := (HA1.out.on hSw).all; obtain ⟨t10, t11, t12, t13⟩ := (HB1.out.on hSw).all; go_simp; try with_reducible rfl)
        try simp only [Act.put, List.getElem_toArray, List.getElem_cons_zero, List.setIfInBounds_toArray, List.set_cons_zero, List.set_cons_succ]
        refine wpAnyH_take (i := 1) (v := ?_) rfl (by kernel_rfl) (by kernel_rfl) (by kernel_rfl) (fun _ _ _ h => h) (Or.inl ⟨by kernel_rfl, ?hy1⟩) (by assumption) ?_
        case hy1 => (intro w hSw; (try dsimp only at hSw); obtain ⟨t00, t01, t02, t03⟩ := (HA1.out.on hSw).all; obtain ⟨t10, t11, t12, t13⟩ := (HB1.out.on hSw).all; go_simp; try with_reducible rfl)
        try simp only [Act.put, List.getElem_toArray, List.getElem_cons_zero, List.getElem_cons_succ, List.setIfInBounds_toArray, List.set_cons_zero, List.set_cons_succ]
        refine wpAnyH_take (i := 2) (v := ?_) rfl (by kernel_rfl) (by kernel_rfl) (by kernel_rfl) (fun _ _ _ h => h) (Or.inl ⟨by kernel_rfl, ?hy2⟩) (by assumption) ?_
        case hy2 => (intro w hSw; (try dsimp only at hSw); obtain ⟨t00, t01, t02, t03⟩ := (HA1.out.on hSw).all; obtain ⟨t10, t11, t12, t13⟩ := (HB1.out.on hSw).all; go_simp; try with_reducible rfl)
        try simp only [Act.put, List.getElem_toArray, List.getElem_cons_zero, List.getElem_cons_succ, List.setIfInBounds_toArray, List.set_cons_zero, List.set_cons_succ]
        refine wpAnyH_take (i := 3) (v := ?_) rfl (by kernel_rfl) (by kernel_rfl) (by kernel_rfl) (fun _ _ _ h => h) (Or.inl ⟨by kernel_rfl, ?hy3⟩) (by assumption) ?_
        case hy3 => (intro w hSw; (try dsimp only at hSw); obtain ⟨t00, t01, t02, t03⟩ := (HA1.out.on hSw).all; obtain ⟨t10, t11, t12, t13⟩ := (HB1.out.on hSw).all; go_simp; try with_reducible rfl)
        try simp only [Act.put, List.getElem_toArray, List.getElem_cons_zero, List.getElem_cons_succ, List.setIfInBounds_toArray, List.set_cons_zero, List.set_cons_succ]
        refine wpAnyH_take (i := 4) (v := ?_) rfl (by kernel_rfl) (by kernel_rfl) (by kernel_rfl) (fun _ _ _ h => h) (Or.inl ⟨by kernel_rfl, ?hy4⟩) (by assumption) ?_
        case hy4 => (intro w hSw; (try dsimp only at hSw); obtain ⟨t00, t01, t02, t03⟩ := (HA1.out.on hSw).all; obtain ⟨t10, t11, t12, t13⟩ := (HB1.out.on hSw).all; go_simp; try with_reducible rfl)
        try simp only [Act.put, List.getElem_toArray, List.getElem_cons_zero, List.getElem_cons_succ, List.setIfInBounds_toArray, List.set_cons_zero, List.set_cons_succ]
        refine wpAnyH_take (i := 5) (v := ?_) rfl (by kernel_rfl) (by kernel_rfl) (by kernel_rfl) (fun _ _ _ h => h) (Or.inl ⟨by kernel_rfl, ?hy5⟩) (by assumption) ?_
        case hy5 => (intro w hSw; (try dsimp only at hSw); obtain ⟨t00, t01, t02, t03⟩ := (HA1.out.on hSw).all; obtain ⟨t10, t11, t12, t13⟩ := (HB1.out.on hSw).all; go_simp; try with_reducible rfl)
        try simp only [Act.put, List.getElem_toArray, List.getElem_cons_zero, List.getElem_cons_succ, List.setIfInBounds_toArray, List.set_cons_zero, List.set_cons_succ]
        refine wpAnyH_take (i := 6) (v := ?_) rfl (by kernel_rfl) (by kernel_rfl) (by kernel_rfl) (fun _ _ _ h => h) (Or.inl ⟨by kernel_rfl, ?hy6⟩) (by assumption) ?_
        case hy6 => (intro w hSw; (try dsimp only at hSw); obtain ⟨t00, t01, t02, t03⟩ := (HA1.out.on hSw).all; obtain ⟨t10, t11, t12, t13⟩ := (HB1.out.on hSw).all; go_simp; try with_reducible rfl)
        try simp only [Act.put, List.getElem_toArray, List.getElem_cons_zero, List.getElem_cons_succ, List.setIfInBounds_toArray, List.set_cons_zero, List.set_cons_succ]
        refine wpAnyH_take (i := 7) (v := ?_) rfl (by kernel_rfl) (by kernel_rfl) (by kernel_rfl) (fun _ _ _ h => h) (Or.inl ⟨by kernel_rfl, ?hy7⟩) (by assumption) ?_
        case hy7 => (intro w hSw; (try dsimp only at hSw); obtain ⟨t00, t01, t02, t03⟩ := (HA1.out.on hSw).all; obtain ⟨t10, t11, t12, t13⟩ := (HB1.out.on hSw).all; go_simp; try with_reducible rfl)
        try simp only [Act.put, List.getElem_toArray, List.getElem_cons_zero, List.getElem_cons_succ, List.setIfInBounds_toArray, List.set_cons_zero, List.set_cons_succ]
        refine wpAnyH_take (i := 8) (v := ?_) rfl (by kernel_rfl) (by kernel_rfl) (by kernel_rfl) (fun _ _ _ h => h) (Or.inl ⟨by kernel_rfl, ?hy8⟩) (by assumption) ?_
        case hy8 => (intro w hSw; (try dsimp only at hSw); obtain ⟨t00, t01, t02, t03⟩ := (HA1.out.on hSw).all; obtain ⟨t10, t11, t12, t13⟩ := (HB1.out.on hSw).all; go_simp; try with_reducible rfl)
        try simp only [Act.put, List.getElem_toArray, List.getElem_cons_zero, List.getElem_cons_succ, List.setIfInBounds_toArray, List.set_cons_zero, List.set_cons_succ]
        refine wpAnyH_take (i := 10) (v := ?_) rfl (by kernel_rfl) (by kernel_rfl) (by kernel_rfl) (fun _ _ _ h => h) (Or.inl ⟨by kernel_rfl, ?hy10⟩) (by assumption) ?_
        case hy10 => (intro w hSw; (try dsimp only at hSw); obtain ⟨t00, t01, t02, t03⟩ := (HA1.out.on hSw).all; obtain ⟨t10, t11, t12, t13⟩ := (HB1.out.on hSw).all; go_simp; try with_reducible rfl)
        try simp only [Act.put, List.getElem_toArray, List.getElem_cons_zero, List.getElem_cons_succ, List.setIfInBounds_toArray, List.set_cons_zero, List.set_cons_succ]
        refine wpAnyH_take (i := 11) (v := ?_) rfl (by kernel_rfl) (by kernel_rfl) (by kernel_rfl) (fun _ _ _ h => h) (Or.inl ⟨by kernel_rfl, ?hy11⟩) (by assumption) ?_
        case hy11 => (intro w hSw; (try dsimp only at hSw); obtain ⟨t00, t01, t02, t03⟩ := (HA1.out.on hSw).all; obtain ⟨t10, t11, t12, t13⟩ := (HB1.out.on hSw).all; go_simp; try with_reducible rfl)
        try simp only [Act.put, List.getElem_toArray, List.getElem_cons_zero, List.getElem_cons_succ, List.setIfInBounds_toArray, List.set_cons_zero, List.set_cons_succ]
        refine wpAnyH_take (i := 12) (v := ?_) rfl (by kernel_rfl) (by kernel_rfl) (by kernel_rfl) (fun _ _ _ h => h) (Or.inl ⟨by kernel_rfl, ?hy12⟩) (by assumption) ?_
        case hy12 => (intro w hSw; (try dsimp only at hSw); obtain ⟨t00, t01, t02, t03⟩ := (HA1.out.on hSw).all; obtain ⟨t10, t11, t12, t13⟩ := (HB1.out.on hSw).all; go_simp; try with_reducible rfl)
        try simp only [Act.put, List.getElem_toArray, List.getElem_cons_zero, List.getElem_cons_succ, List.setIfInBounds_toArray, List.set_cons_zero, List.set_cons_succ]
        refine wpAnyH_take (i := 13) (v := ?_) rfl (by kernel_rfl) (by kernel_rfl) (by kernel_rfl) (fun _ _ _ h => h) (Or.inl ⟨by kernel_rfl, ?hy13⟩) (by assumption) ?_
        case hy13 => (intro w hSw; (try dsimp only at hSw); obtain ⟨t00, t01, t02, t03⟩ := (HA1.out.on hSw).all; obtain ⟨t10, t11, t12, t13⟩ := (HB1.out.on hSw).all; go_simp; try with_reducible rfl)
        try simp only [Act.put, List.getElem_toArray, List.getElem_cons_zero, List.getElem_cons_succ, List.setIfInBounds_toArray, List.set_cons_zero, List.set_cons_succ]
        refine wpAnyH_ready (rs := [9]) (by kernel_rfl) (by simp) ?_
        refine AllReadyH.cons rfl (fun K hK => ?_) AllReadyH.nil
        go_simp
        go_wp2_with fail
        refine (C1.out _).mono ?_
        rintro e u209 ⟨rfl, rfl⟩
        refine hK.out _ _ hHeld (fun _ => ?_)
        clear hK K
        refine wpAnyH_ready (rs := [14]) (by kernel_rfl) (by simp) ?_
        refine AllReadyH.cons rfl (fun K hK => ?_) AllReadyH.nil
        go_simp
        go_wp2_with fail
        refine (C2.out _).mono ?_
        rintro e u214 ⟨rfl, rfl⟩
        refine hK.out _ _ hHeld (fun _ => ?_)
        clear hK K
        refine wpAnyH_take (i := 15) (v := ?_) rfl (by kernel_rfl) (by kernel_rfl) (by kernel_rfl) (fun _ _ _ h => h) (Or.inl ⟨by kernel_rfl, ?hy15⟩) (by assumption) ?_
        case hy15 => (intro w hSw; (try dsimp only at hSw); obtain ⟨t00, t01, t02, t03⟩ := (HA1.out.on hSw).all; obtain ⟨t10, t11, t12, t13⟩ := (HB1.out.on hSw).all; go_simp; try with_reducible rfl)
        try simp only [Act.put, List.getElem_toArray, List.getElem_cons_zero, List.getElem_cons_succ, List.setIfInBounds_toArray, List.set_cons_zero, List.set_cons_succ]
        refine wpAnyH_take (i := 16) (v := ?_) rfl (by kernel_rfl) (by kernel_rfl) (by kernel_rfl) (fun _ _ _ h => h) (Or.inl ⟨by kernel_rfl, ?hy16⟩) (by assumption) ?_
        case hy16 => (intro w hSw; (try dsimp only at hSw); obtain ⟨t00, t01, t02, t03⟩ := (HA1.out.on hSw).all; obtain ⟨t10, t11, t12, t13⟩ := (HB1.out.on hSw).all; go_simp; try with_reducible rfl)
        try simp only [Act.put, List.getElem_toArray, List.getElem_cons_zero, List.getElem_cons_succ, List.setIfInBounds_toArray, List.set_cons_zero, List.set_cons_succ]
        refine wpAnyH_take (i := 17) (v := ?_) rfl (by kernel_rfl) (by kernel_rfl) (by kernel_rfl) (fun _ _ _ h => h) (Or.inl ⟨by kernel_rfl, ?hy17⟩) (by assumption) ?_
        case hy17 => (intro w hSw; (try dsimp only at hSw); obtain ⟨t00, t01, t02, t03⟩ := (HA1.out.on hSw).all; obtain ⟨t10, t11, t12, t13⟩ := (HB1.out.on hSw).all; go_simp; try with_reducible rfl)
        try simp only [Act.put, List.getElem_toArray, List.getElem_cons_zero, List.getElem_cons_succ, List.setIfInBounds_toArray, List.set_cons_zero, List.set_cons_succ]
        refine wpAnyH_done (by kernel_rfl) ?_ _
        clear hHeld
        go_upto_region 8 with fail
        refine wp_region_held_drew (S := fun x => Below ((wc.alloc (.cells #[.int .i64 0, .int .i64 0, .int .i64 0, .int .i64 0] 36)).drew).heap.size ((wc.alloc (.cells #[.int .i64 0, .int .i64 0, .int .i64 0, .int .i64 0] 36)).drew) x) (by kernel_rfl) (Below.refl _ _).drew (fun hHeld => ?_)
        have hHeld : Below ((wc.alloc (.cells #[.int .i64 0, .int .i64 0, .int .i64 0, .int .i64 0] 36)).drew).heap.size ((wc.alloc (.cells #[.int .i64 0, .int .i64 0, .int .i64 0, .int .i64 0] 36)).drew) ((wc.alloc (.cells #[.int .i64 0, .int .i64 0, .int .i64 0, .int .i64 0] 36)).drew).drew := hHeld
        refine wpAnyH_take (i := 0) (v := ?_) rfl (by kernel_rfl) (by kernel_rfl) (by kernel_rfl) (fun _ _ _ h => h) (Or.inl ⟨by kernel_rfl, ?hy0⟩) (by assumption) ?_
        case hy0 => (intro w hSw; (try dsimp only at hSw); obtain ⟨t00, t01, t02, t03⟩ := (HA2.out.on hSw).all; obtain ⟨t10, t11, t12, t13⟩ := (HB2.out.on hSw).all; go_simp; try with_reducible rfl)
        try simp only [Act.put, List.getElem_toArray, List.getElem_cons_zero, List.setIfInBounds_toArray, List.set_cons_zero, List.set_cons_succ]
        refine wpAnyH_take (i := 1) (v := ?_) rfl (by kernel_rfl) (by kernel_rfl) (by kernel_rfl) (fun _ _ _ h => h) (Or.inl ⟨by kernel_rfl, ?hy1⟩) (by assumption) ?_
        case hy1 => (intro w hSw; (try dsimp only at hSw); obtain ⟨t00, t01, t02, t03⟩ := (HA2.out.on hSw).all; obtain ⟨t10, t11, t12, t13⟩ := (HB2.out.on hSw).all; go_simp; try with_reducible rfl)
        try simp only [Act.put, List.getElem_toArray, List.getElem_cons_zero, List.getElem_cons_succ, List.setIfInBounds_toArray, List.set_cons_zero, List.set_cons_succ]
        refine wpAnyH_take (i := 2) (v := ?_) rfl (by kernel_rfl) (by kernel_rfl) (by kernel_rfl) (fun _ _ _ h => h) (Or.inl ⟨by kernel_rfl, ?hy2⟩) (by assumption) ?_
        case hy2 => (intro w hSw; (try dsimp only at hSw); obtain ⟨t00, t01, t02, t03⟩ := (HA2.out.on hSw).all; obtain ⟨t10, t11, t12, t13⟩ := (HB2.out.on hSw).all; go_simp; try with_reducible rfl)
        try simp only [Act.put, List.getElem_toArray, List.getElem_cons_zero, List.getElem_cons_succ, List.setIfInBounds_toArray, List.set_cons_zero, List.set_cons_succ]
        refine wpAnyH_take (i := 3) (v := ?_) rfl (by kernel_rfl) (by kernel_rfl) (by kernel_rfl) (fun _ _ _ h => h) (Or.inl ⟨by kernel_rfl, ?hy3⟩) (by assumption) ?_
        case hy3 => (intro w hSw; (try dsimp only at hSw); obtain ⟨t00, t01, t02, t03⟩ := (HA2.out.on hSw).all; obtain ⟨t10, t11, t12, t13⟩ := (HB2.out.on hSw).all; go_simp; try with_reducible rfl)
        try simp only [Act.put, List.getElem_toArray, List.getElem_cons_zero, List.getElem_cons_succ, List.setIfInBounds_toArray, List.set_cons_zero, List.set_cons_succ]
        refine wpAnyH_take (i := 4) (v := ?_) rfl (by kernel_rfl) (by kernel_rfl) (by kernel_rfl) (fun _ _ _ h => h) (Or.inl ⟨by kernel_rfl, ?hy4⟩) (by assumption) ?_
        case hy4 => (intro w hSw; (try dsimp only at hSw); obtain ⟨t00, t01, t02, t03⟩ := (HA2.out.on hSw).all; obtain ⟨t10, t11, t12, t13⟩ := (HB2.out.on hSw).all; go_simp; try with_reducible rfl)
        try simp only [Act.put, List.getElem_toArray, List.getElem_cons_zero, List.getElem_cons_succ, List.setIfInBounds_toArray, List.set_cons_zero, List.set_cons_succ]
        refine wpAnyH_take (i := 5) (v := ?_) rfl (by kernel_rfl) (by kernel_rfl) (by kernel_rfl) (fun _ _ _ h => h) (Or.inl ⟨by kernel_rfl, ?hy5⟩) (by assumption) ?_
        case hy5 => (intro w hSw; (try dsimp only at hSw); obtain ⟨t00, t01, t02, t03⟩ := (HA2.out.on hSw).all; obtain ⟨t10, t11, t12, t13⟩ := (HB2.out.on hSw).all; go_simp; try with_reducible rfl)
        try simp only [Act.put, List.getElem_toArray, List.getElem_cons_zero, List.getElem_cons_succ, List.setIfInBounds_toArray, List.set_cons_zero, List.set_cons_succ]
        refine wpAnyH_take (i := 6) (v := ?_) rfl (by kernel_rfl) (by kernel_rfl) (by kernel_rfl) (fun _ _ _ h => h) (Or.inl ⟨by kernel_rfl, ?hy6⟩) (by assumption) ?_
        case hy6 => (intro w hSw; (try dsimp only at hSw); obtain ⟨t00, t01, t02, t03⟩ := (HA2.out.on hSw).all; obtain ⟨t10, t11, t12, t13⟩ := (HB2.out.on hSw).all; go_simp; try with_reducible rfl)
        try simp only [Act.put, List.getElem_toArray, List.getElem_cons_zero, List.getElem_cons_succ, List.setIfInBounds_toArray, List.set_cons_zero, List.set_cons_succ]
        refine wpAnyH_take (i := 7) (v := ?_) rfl (by kernel_rfl) (by kernel_rfl) (by kernel_rfl) (fun _ _ _ h => h) (Or.inl ⟨by kernel_rfl, ?hy7⟩) (by assumption) ?_
        case hy7 => (intro w hSw; (try dsimp only at hSw); obtain ⟨t00, t01, t02, t03⟩ := (HA2.out.on hSw).all; obtain ⟨t10, t11, t12, t13⟩ := (HB2.out.on hSw).all; go_simp; try with_reducible rfl)
        try simp only [Act.put, List.getElem_toArray, List.getElem_cons_zero, List.getElem_cons_succ, List.setIfInBounds_toArray, List.set_cons_zero, List.set_cons_succ]
        refine wpAnyH_take (i := 8) (v := ?_) rfl (by kernel_rfl) (by kernel_rfl) (by kernel_rfl) (fun _ _ _ h => h) (Or.inl ⟨by kernel_rfl, ?hy8⟩) (by assumption) ?_
        case hy8 => (intro w hSw; (try dsimp only at hSw); obtain ⟨t00, t01, t02, t03⟩ := (HA2.out.on hSw).all; obtain ⟨t10, t11, t12, t13⟩ := (HB2.out.on hSw).all; go_simp; try with_reducible rfl)
        try simp only [Act.put, List.getElem_toArray, List.getElem_cons_zero, List.getElem_cons_succ, List.setIfInBounds_toArray, List.set_cons_zero, List.set_cons_succ]
        refine wpAnyH_take (i := 10) (v := ?_) rfl (by kernel_rfl) (by kernel_rfl) (by kernel_rfl) (fun _ _ _ h => h) (Or.inl ⟨by kernel_rfl, ?hy10⟩) (by assumption) ?_
        case hy10 => (intro w hSw; (try dsimp only at hSw); obtain ⟨t00, t01, t02, t03⟩ := (HA2.out.on hSw).all; obtain ⟨t10, t11, t12, t13⟩ := (HB2.out.on hSw).all; go_simp; try with_reducible rfl)
        try simp only [Act.put, List.getElem_toArray, List.getElem_cons_zero, List.getElem_cons_succ, List.setIfInBounds_toArray, List.set_cons_zero, List.set_cons_succ]
        refine wpAnyH_take (i := 11) (v := ?_) rfl (by kernel_rfl) (by kernel_rfl) (by kernel_rfl) (fun _ _ _ h => h) (Or.inl ⟨by kernel_rfl, ?hy11⟩) (by assumption) ?_
        case hy11 => (intro w hSw; (try dsimp only at hSw); obtain ⟨t00, t01, t02, t03⟩ := (HA2.out.on hSw).all; obtain ⟨t10, t11, t12, t13⟩ := (HB2.out.on hSw).all; go_simp; try with_reducible rfl)
        try simp only [Act.put, List.getElem_toArray, List.getElem_cons_zero, List.getElem_cons_succ, List.setIfInBounds_toArray, List.set_cons_zero, List.set_cons_succ]
        refine wpAnyH_take (i := 12) (v := ?_) rfl (by kernel_rfl) (by kernel_rfl) (by kernel_rfl) (fun _ _ _ h => h) (Or.inl ⟨by kernel_rfl, ?hy12⟩) (by assumption) ?_
        case hy12 => (intro w hSw; (try dsimp only at hSw); obtain ⟨t00, t01, t02, t03⟩ := (HA2.out.on hSw).all; obtain ⟨t10, t11, t12, t13⟩ := (HB2.out.on hSw).all; go_simp; try with_reducible rfl)
        try simp only [Act.put, List.getElem_toArray, List.getElem_cons_zero, List.getElem_cons_succ, List.setIfInBounds_toArray, List.set_cons_zero, List.set_cons_succ]
        refine wpAnyH_take (i := 13) (v := ?_) rfl (by kernel_rfl) (by kernel_rfl) (by kernel_rfl) (fun _ _ _ h => h) (Or.inl ⟨by kernel_rfl, ?hy13⟩) (by assumption) ?_
        case hy13 => (intro w hSw; (try dsimp only at hSw); obtain ⟨t00, t01, t02, t03⟩ := (HA2.out.on hSw).all; obtain ⟨t10, t11, t12, t13⟩ := (HB2.out.on hSw).all; go_simp; try with_reducible rfl)
        try simp only [Act.put, List.getElem_toArray, List.getElem_cons_zero, List.getElem_cons_succ, List.setIfInBounds_toArray, List.set_cons_zero, List.set_cons_succ]
        refine wpAnyH_ready (rs := [9]) (by kernel_rfl) (by simp) ?_
        refine AllReadyH.cons rfl (fun K hK => ?_) AllReadyH.nil
        go_simp
        go_wp2_with fail
        refine (C3.out _).mono ?_
        rintro e u209 ⟨rfl, rfl⟩
        refine hK.out _ _ hHeld (fun _ => ?_)
        clear hK K
        refine wpAnyH_ready (rs := [14]) (by kernel_rfl) (by simp) ?_
        refine AllReadyH.cons rfl (fun K hK => ?_) AllReadyH.nil
        go_simp
        go_wp2_with fail
        refine (C4.out _).mono ?_
        rintro e u214 ⟨rfl, rfl⟩
        refine hK.out _ _ hHeld (fun _ => ?_)
        clear hK K
        refine wpAnyH_take (i := 15) (v := ?_) rfl (by kernel_rfl) (by kernel_rfl) (by kernel_rfl) (fun _ _ _ h => h) (Or.inl ⟨by kernel_rfl, ?hy15⟩) (by assumption) ?_
        case hy15 => (intro w hSw; (try dsimp only at hSw); obtain ⟨t00, t01, t02, t03⟩ := (HA2.out.on hSw).all; obtain ⟨t10, t11, t12, t13⟩ := (HB2.out.on hSw).all; go_simp; try with_reducible rfl)
        try simp only [Act.put, List.getElem_toArray, List.getElem_cons_zero, List.getElem_cons_succ, List.setIfInBounds_toArray, List.set_cons_zero, List.set_cons_succ]
        refine wpAnyH_take (i := 16) (v := ?_) rfl (by kernel_rfl) (by kernel_rfl) (by kernel_rfl) (fun _ _ _ h => h) (Or.inl ⟨by kernel_rfl, ?hy16⟩) (by assumption) ?_
        case hy16 => (intro w hSw; (try dsimp only at hSw); obtain ⟨t00, t01, t02, t03⟩ := (HA2.out.on hSw).all; obtain ⟨t10, t11, t12, t13⟩ := (HB2.out.on hSw).all; go_simp; try with_reducible rfl)
        try simp only [Act.put, List.getElem_toArray, List.getElem_cons_zero, List.getElem_cons_succ, List.setIfInBounds_toArray, List.set_cons_zero, List.set_cons_succ]
        refine wpAnyH_take (i := 17) (v := ?_) rfl (by kernel_rfl) (by kernel_rfl) (by kernel_rfl) (fun _ _ _ h => h) (Or.inl ⟨by kernel_rfl, ?hy17⟩) (by assumption) ?_
        case hy17 => (intro w hSw; (try dsimp only at hSw); obtain ⟨t00, t01, t02, t03⟩ := (HA2.out.on hSw).all; obtain ⟨t10, t11, t12, t13⟩ := (HB2.out.on hSw).all; go_simp; try with_reducible rfl)
        try simp only [Act.put, List.getElem_toArray, List.getElem_cons_zero, List.getElem_cons_succ, List.setIfInBounds_toArray, List.set_cons_zero, List.set_cons_succ]
        refine wpAnyH_done (by kernel_rfl) ?_ _
        clear hHeld HA1 HA2 HB1 HB2 C1 C2 C3 C4
        go_wp2
        refine bodyPost_ret (results_cell_row rfl _ _ (w.heap.size + 1 + 1) _ _ _ _ rfl ((HR.out.st (cvr a b)).on (below_new _ _)).drew.drew.obj Try.underlying36 rfl infoR) rfl ?_
        exact ⟨by rw [HC.out], (Below.on (below_st HW.out (by omega) (cvr a b)) (below_new _ _)).drew.drew⟩
      · have v2 : rceq (pln b) ⟨0, 0, 0, 0⟩ = true := by rw [pln_emp hf]; rfl
        rw [v2] at q2
        have HC := hid (cov_emp2 he hf)
        rw [pln_full he] at q1 a0 a1 a2 a3
        clear ha hb hd v1 v2 hA hB hR he hf
        go_wp2
        refine bodyPost_ret (results_cell_row rfl _ _ (w.heap.size + 1 + 1) _ _ _ _ rfl ((HR.out.st a).on (below_new _ _)).obj Try.underlying36 rfl infoR) rfl ?_
        exact ⟨by rw [HC.out], Below.on (below_st HW.out (by omega) a) (below_new _ _)⟩
    · have v1 : rceq (pln a) ⟨0, 0, 0, 0⟩ = true := by rw [pln_emp he]; rfl
      rw [v1] at q1
      have HC := hid (cov_emp1 he b)
      clear ha hb hd v1 hA hB hR he
      go_wp2
      refine bodyPost_ret (results_cell_row rfl _ _ (w.heap.size + 1 + 1) _ _ _ _ rfl ((HR.out.st (pln b)).on (below_new _ _)).obj Try.underlying36 rfl infoR) rfl ?_
      exact ⟨by rw [HC.out], Below.on (below_st HW.out (by omega) (pln b)) (below_new _ _)⟩
end Go.Proofs.Ytlkodgmnhphfcaa
