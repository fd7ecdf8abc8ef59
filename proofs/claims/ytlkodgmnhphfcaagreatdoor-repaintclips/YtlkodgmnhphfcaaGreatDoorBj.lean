/- The document's edges. -/
import Derived.Test.YtlkodgmnhphfcaaGreatDoorBi
import Derived.Test.YtlkodgmnhphfcaaGreatDoorBh
import Derived.Test.YtlkodgmnhphfcaaGreatDoorBe
namespace Go.Proofs.YtlkodgmnhphfcaaGreatDoor
open Go Go.RowKit

theorem xs_snoc {l : List Rc} {j : Nat} {r : Rc} (h : l[j]? = some r) : xsOf (l.take (j + 1)) = addE (addE (xsOf (l.take j)) r.x) (r.x + r.w) := by
  rw [List.take_add_one, h]
  simp [xsOf]
theorem ys_snoc {l : List Rc} {j : Nat} {r : Rc} (h : l[j]? = some r) : ysOf (l.take (j + 1)) = addE (addE (ysOf (l.take j)) r.y) (r.y + r.h) := by
  rw [List.take_add_one, h]
  simp [ysOf]

set_option maxRecDepth 100000 in
set_option maxHeartbeats 1000000 in
theorem redges_any (a a' : Option Addr) (n c n' c' : Nat) (l m : List Rc) (w : World) (h : RdC w a n c l) (h' : RdC w a' n' c' m) (hk : ∀ x ∈ l ++ m, Ck x) (hn : n + n' ≤ 4096) :
    Calls Tryz.prog 69 #[.slice a n c, .slice a' n' c'] w fun e w' => ∃ x y, e = .returned (.tuple #[x, y]) ∧ OwJ w w' x (xsOf (l ++ m)) ∧ OwJ w w' y (ysOf (l ++ m)) := by
  have HL := hid h.len
  have HL' := hid h'.len
  have hs := h.small
  have hs' := h'.small
  have H := hid h
  have H' := hid h'
  have HK := hid hk
  have es : IntKind.i64.wrap ((n : Int) + (n' : Int)) = (n : Int) + n' := by rw [IntKind.wrap_i64]; omega
  clear h h' hk
  go_enter Tryz.func69, Tryz.ntmps69
  go_wp2
  go_loopw [6, 7, 8] (fun s6 s7 s8 wr => ∃ j : Nat, s8 = .int .i64 j ∧ j ≤ n + n' ∧ OwJ w wr s6 (xsOf ((l ++ m).take j)) ∧ OwJ w wr s7 (ysOf ((l ++ m).take j))) (fun _ _ s8 _ => n + n' - (numOf s8).toNat)
  case atStart => exact ⟨0, rfl, by omega, ⟨World.ownsRow_nil _ _ _ _, Below.refl _ _⟩, ⟨World.ownsRow_nil _ _ _ _, Below.refl _ _⟩⟩
  case round =>
    obtain ⟨j, rfl, hj, hX, hY⟩ := hrel
    have HX := hid hX
    have HY := hid hY
    clear hX hY
    by_cases hgo : j < n + n'
    · have e1 : decide ((j : Int) < (n : Int) + n') = true := decide_eq_true (by omega)
      obtain ⟨r, hr⟩ : ∃ r, (l ++ m)[j]? = some r := ⟨_, List.getElem?_eq_getElem (by rw [List.length_append, HL.out, HL'.out]; exact hgo)⟩
      have HR := hid hr
      have HKR := hid (HK.out r (List.mem_of_getElem? hr))
      have HBX : Hid (Bx (wr.alloc (ob r)) wr.heap.size r ∧ RowKit.Below wr.heap.size wr (wr.alloc (ob r))) := ⟨bx_new wr r, below_new wr _⟩
      rw [ob] at HBX
      clear hr
      go_upto_if 23 with fail
      go_cut [] from 10 to 54 (fun wx => wx = wr.alloc (.cells #[.int .i64 r.x, .int .i64 r.y, .int .i64 r.w, .int .i64 r.h] 67))
      case first =>
        by_cases hjn : j < n
        · have e2 : decide ((j : Int) < n) = true := decide_eq_true (by omega)
          have e3 : (j : Int) < n := by omega
          obtain ⟨b, off, s, rfl, _, hsj, _, he⟩ := (H.out.on HX.out.bel).el hjn
          have hrs : s = r := by
            have := HR.out
            rw [List.getElem?_append_left (by rw [HL.out]; exact hjn), hsj] at this
            exact Option.some.inj this
          subst hrs
          obtain ⟨hlt, c0, c1, c2, c3⟩ := he
          have hne : ¬ wr.heap.size = b := by omega
          clear hsj HBX
          go_wp2_with fail
          go_meet
          rfl
        · have e2 : decide ((j : Int) < n) = false := decide_eq_false (by omega)
          obtain ⟨k, hk⟩ : ∃ k, j = n + k := ⟨j - n, by omega⟩
          subst hk
          have hkn : k < n' := by omega
          have e3 : (k : Int) < n' := by omega
          have e5 : ¬ (n + k < n) := by omega
          have e4 : IntKind.i64.wrap (((n + k : Nat) : Int) - n) = k := by rw [IntKind.wrap_i64]; omega
          obtain ⟨b, off, s, rfl, _, hsj, _, he⟩ := (H'.out.on HX.out.bel).el hkn
          have hrs : s = r := by
            have := HR.out
            rw [List.getElem?_append_right (by rw [HL.out]; omega), HL.out, Nat.add_sub_cancel_left, hsj] at this
            exact Option.some.inj this
          subst hrs
          obtain ⟨hlt, c0, c1, c2, c3⟩ := he
          have hne : ¬ wr.heap.size = b := by omega
          clear hsj HBX
          go_wp2_with fail
          go_meet
          rfl
      case rest =>
        subst hcut
        have HX2 := hid (HX.out.on HBX.out.2)
        have HY2 := hid (HY.out.on HBX.out.2)
        have HBX2 := hid HBX.out.1
        have HSX := hid (xs_snoc HR.out)
        have HSY := hid (ys_snoc HR.out)
        have hlx : (xsOf ((l ++ m).take j)).length ≤ 8192 := by
          have := xs_length ((l ++ m).take j)
          rw [List.length_take] at this
          omega
        have hly : (ysOf ((l ++ m).take j)).length ≤ 8192 := by
          have := ys_length ((l ++ m).take j)
          rw [List.length_take] at this
          omega
        obtain ⟨P, hP⟩ : ∃ P, P = wr.heap.size := ⟨_, rfl⟩
        rw [← hP] at HBX2 ⊢
        clear HX HY HBX hP
        generalize wr.alloc (.cells #[.int .i64 r.x, .int .i64 r.y, .int .i64 r.w, .int .i64 r.h] 67) = u0 at HX2 HY2 HBX2 ⊢
        obtain ⟨k1, k2, k3, k4, k5, k6⟩ := HKR.out
        have f1 : IntKind.i64.wrap (r.x + r.w) = r.x + r.w := by rw [IntKind.wrap_i64]; omega
        have f2 : IntKind.i64.wrap (r.y + r.h) = r.y + r.h := by rw [IntKind.wrap_i64]; omega
        generalize xsOf ((l ++ m).take j) = X at HX2 HSX hlx
        generalize ysOf ((l ++ m).take j) = Y at HY2 HSY hly
        obtain ⟨ax, cx, hvx, rx⟩ := rdj_of_owns HX2.out.own
        obtain ⟨ay, cy, hvy, ry⟩ := rdj_of_owns HY2.out.own
        subst hvx
        subst hvy
        have HRX := hid rx
        have HRY := hid ry
        clear rx ry
        have hlx2 := addE_length (l := X) (v := r.x)
        have hly2 := addE_length (l := Y) (v := r.y)
        go_upto_region 9 with fail
        refine wp_region_held_drew (S := fun x => Below u0.heap.size u0 x) (by kernel_rfl) (Below.refl _ _).drew (fun hHeld => ?_)
        have hHeld : Below u0.heap.size u0 u0.drew := hHeld
        refine wpAnyH_take (i := 0) (v := ?_) rfl (by kernel_rfl) (by kernel_rfl) (by kernel_rfl) (fun _ _ _ h => h) (Or.inl ⟨by kernel_rfl, ?hy0⟩) (by assumption) ?_
        case hy0 => (intro w hSw; (try dsimp only at hSw); obtain ⟨t00, t01, t02, t03⟩ := (HBX2.out.on hSw).all; go_simp; try with_reducible rfl)
        try simp only [Act.put, List.getElem_toArray, List.getElem_cons_zero, List.setIfInBounds_toArray, List.set_cons_zero, List.set_cons_succ]
        refine wpAnyH_take (i := 1) (v := ?_) rfl (by kernel_rfl) (by kernel_rfl) (by kernel_rfl) (fun _ _ _ h => h) (Or.inl ⟨by kernel_rfl, ?hy1⟩) (by assumption) ?_
        case hy1 => (intro w hSw; (try dsimp only at hSw); obtain ⟨t00, t01, t02, t03⟩ := (HBX2.out.on hSw).all; go_simp; try with_reducible rfl)
        try simp only [Act.put, List.getElem_toArray, List.getElem_cons_zero, List.getElem_cons_succ, List.setIfInBounds_toArray, List.set_cons_zero, List.set_cons_succ]
        refine wpAnyH_take (i := 2) (v := ?_) rfl (by kernel_rfl) (by kernel_rfl) (by kernel_rfl) (fun _ _ _ h => h) (Or.inl ⟨by kernel_rfl, ?hy2⟩) (by assumption) ?_
        case hy2 => (intro w hSw; (try dsimp only at hSw); obtain ⟨t00, t01, t02, t03⟩ := (HBX2.out.on hSw).all; go_simp; try with_reducible rfl)
        try simp only [Act.put, List.getElem_toArray, List.getElem_cons_zero, List.getElem_cons_succ, List.setIfInBounds_toArray, List.set_cons_zero, List.set_cons_succ]
        refine wpAnyH_take (i := 4) (v := ?_) rfl (by kernel_rfl) (by kernel_rfl) (by kernel_rfl) (fun _ _ _ h => h) (Or.inl ⟨by kernel_rfl, ?hy4⟩) (by assumption) ?_
        case hy4 => (intro w hSw; (try dsimp only at hSw); obtain ⟨t00, t01, t02, t03⟩ := (HBX2.out.on hSw).all; go_simp; try with_reducible rfl)
        try simp only [Act.put, List.getElem_toArray, List.getElem_cons_zero, List.getElem_cons_succ, List.setIfInBounds_toArray, List.set_cons_zero, List.set_cons_succ]
        refine wpAnyH_take (i := 5) (v := ?_) rfl (by kernel_rfl) (by kernel_rfl) (by kernel_rfl) (fun _ _ _ h => h) (Or.inl ⟨by kernel_rfl, ?hy5⟩) (by assumption) ?_
        case hy5 => (intro w hSw; (try dsimp only at hSw); obtain ⟨t00, t01, t02, t03⟩ := (HBX2.out.on hSw).all; go_simp; try with_reducible rfl)
        try simp only [Act.put, List.getElem_toArray, List.getElem_cons_zero, List.getElem_cons_succ, List.setIfInBounds_toArray, List.set_cons_zero, List.set_cons_succ]
        refine wpAnyH_take (i := 6) (v := ?_) rfl (by kernel_rfl) (by kernel_rfl) (by kernel_rfl) (fun _ _ _ h => h) (Or.inl ⟨by kernel_rfl, ?hy6⟩) (by assumption) ?_
        case hy6 => (intro w hSw; (try dsimp only at hSw); obtain ⟨t00, t01, t02, t03⟩ := (HBX2.out.on hSw).all; go_simp; try with_reducible rfl)
        try simp only [Act.put, List.getElem_toArray, List.getElem_cons_zero, List.getElem_cons_succ, List.setIfInBounds_toArray, List.set_cons_zero, List.set_cons_succ]
        refine wpAnyH_take (i := 7) (v := ?_) rfl (by kernel_rfl) (by kernel_rfl) (by kernel_rfl) (fun _ _ _ h => h) (Or.inl ⟨by kernel_rfl, ?hy7⟩) (by assumption) ?_
        case hy7 => (intro w hSw; (try dsimp only at hSw); obtain ⟨t00, t01, t02, t03⟩ := (HBX2.out.on hSw).all; go_simp; try with_reducible rfl)
        try simp only [Act.put, List.getElem_toArray, List.getElem_cons_zero, List.getElem_cons_succ, List.setIfInBounds_toArray, List.set_cons_zero, List.set_cons_succ]
        refine wpAnyH_take (i := 8) (v := ?_) rfl (by kernel_rfl) (by kernel_rfl) (by kernel_rfl) (fun _ _ _ h => h) (Or.inl ⟨by kernel_rfl, ?hy8⟩) (by assumption) ?_
        case hy8 => (intro w hSw; (try dsimp only at hSw); obtain ⟨t00, t01, t02, t03⟩ := (HBX2.out.on hSw).all; go_simp; try with_reducible rfl)
        try simp only [Act.put, List.getElem_toArray, List.getElem_cons_zero, List.getElem_cons_succ, List.setIfInBounds_toArray, List.set_cons_zero, List.set_cons_succ]
        refine wpAnyH_ready (rs := [3]) (by kernel_rfl) (by simp) ?_
        refine AllReadyH.cons rfl (fun K hK => ?_) AllReadyH.nil
        go_simp
        go_wp2_with fail
        refine (radd_any ax X.length cx X r.x _ (HRX.out.on hHeld) (by omega)).mono ?_
        rintro e u101 ⟨v101, rfl, h101⟩
        obtain ⟨a101, c101, rfl, r101⟩ := rdj_of_owns h101.own
        have H101 := hid r101
        replace hHeld := Below.on hHeld h101.bel
        refine hK.out _ _ hHeld (fun _ => ?_)
        clear hK K h101 r101
        refine wpAnyH_ready (rs := [9]) (by kernel_rfl) (by simp) ?_
        refine AllReadyH.cons rfl (fun K hK => ?_) AllReadyH.nil
        go_simp
        go_wp2_with fail
        refine (radd_any a101 (addE X r.x).length c101 (addE X r.x) (r.x + r.w) _ H101.out (by omega)).mono ?_
        rintro e u102 ⟨v102, rfl, h102⟩
        have HX3 := hid (h102.base (Below.on HX2.out.bel hHeld))
        replace hHeld := Below.on hHeld h102.bel
        refine hK.out _ _ hHeld (fun _ => ?_)
        clear hK K h102
        refine wpAnyH_take (i := 10) (v := ?_) rfl (by kernel_rfl) (by kernel_rfl) (by kernel_rfl) (fun _ _ _ h => h) (Or.inl ⟨by kernel_rfl, ?hy10⟩) (by assumption) ?_
        case hy10 => (intro w hSw; (try dsimp only at hSw); obtain ⟨t00, t01, t02, t03⟩ := (HBX2.out.on hSw).all; go_simp; try with_reducible rfl)
        try simp only [Act.put, List.getElem_toArray, List.getElem_cons_zero, List.getElem_cons_succ, List.setIfInBounds_toArray, List.set_cons_zero, List.set_cons_succ]
        refine wpAnyH_done (by kernel_rfl) ?_ _
        have HBX3 := hid (HBX2.out.on hHeld)
        have HRY3 := hid (HRY.out.on hHeld)
        have HB3 := hid hHeld
        clear hHeld HBX2 HRX H101 HX2
        go_upto_region 10 with fail
        refine wp_region_held_drew (S := fun x => Below u102.heap.size u102 x) (by kernel_rfl) (Below.refl _ _).drew (fun hHeld => ?_)
        have hHeld : Below u102.heap.size u102 u102.drew := hHeld
        refine wpAnyH_take (i := 0) (v := ?_) rfl (by kernel_rfl) (by kernel_rfl) (by kernel_rfl) (fun _ _ _ h => h) (Or.inl ⟨by kernel_rfl, ?hy0⟩) (by assumption) ?_
        case hy0 => (intro w hSw; (try dsimp only at hSw); obtain ⟨t00, t01, t02, t03⟩ := (HBX3.out.on hSw).all; go_simp; try with_reducible rfl)
        try simp only [Act.put, List.getElem_toArray, List.getElem_cons_zero, List.setIfInBounds_toArray, List.set_cons_zero, List.set_cons_succ]
        refine wpAnyH_take (i := 1) (v := ?_) rfl (by kernel_rfl) (by kernel_rfl) (by kernel_rfl) (fun _ _ _ h => h) (Or.inl ⟨by kernel_rfl, ?hy1⟩) (by assumption) ?_
        case hy1 => (intro w hSw; (try dsimp only at hSw); obtain ⟨t00, t01, t02, t03⟩ := (HBX3.out.on hSw).all; go_simp; try with_reducible rfl)
        try simp only [Act.put, List.getElem_toArray, List.getElem_cons_zero, List.getElem_cons_succ, List.setIfInBounds_toArray, List.set_cons_zero, List.set_cons_succ]
        refine wpAnyH_take (i := 2) (v := ?_) rfl (by kernel_rfl) (by kernel_rfl) (by kernel_rfl) (fun _ _ _ h => h) (Or.inl ⟨by kernel_rfl, ?hy2⟩) (by assumption) ?_
        case hy2 => (intro w hSw; (try dsimp only at hSw); obtain ⟨t00, t01, t02, t03⟩ := (HBX3.out.on hSw).all; go_simp; try with_reducible rfl)
        try simp only [Act.put, List.getElem_toArray, List.getElem_cons_zero, List.getElem_cons_succ, List.setIfInBounds_toArray, List.set_cons_zero, List.set_cons_succ]
        refine wpAnyH_take (i := 4) (v := ?_) rfl (by kernel_rfl) (by kernel_rfl) (by kernel_rfl) (fun _ _ _ h => h) (Or.inl ⟨by kernel_rfl, ?hy4⟩) (by assumption) ?_
        case hy4 => (intro w hSw; (try dsimp only at hSw); obtain ⟨t00, t01, t02, t03⟩ := (HBX3.out.on hSw).all; go_simp; try with_reducible rfl)
        try simp only [Act.put, List.getElem_toArray, List.getElem_cons_zero, List.getElem_cons_succ, List.setIfInBounds_toArray, List.set_cons_zero, List.set_cons_succ]
        refine wpAnyH_take (i := 5) (v := ?_) rfl (by kernel_rfl) (by kernel_rfl) (by kernel_rfl) (fun _ _ _ h => h) (Or.inl ⟨by kernel_rfl, ?hy5⟩) (by assumption) ?_
        case hy5 => (intro w hSw; (try dsimp only at hSw); obtain ⟨t00, t01, t02, t03⟩ := (HBX3.out.on hSw).all; go_simp; try with_reducible rfl)
        try simp only [Act.put, List.getElem_toArray, List.getElem_cons_zero, List.getElem_cons_succ, List.setIfInBounds_toArray, List.set_cons_zero, List.set_cons_succ]
        refine wpAnyH_take (i := 6) (v := ?_) rfl (by kernel_rfl) (by kernel_rfl) (by kernel_rfl) (fun _ _ _ h => h) (Or.inl ⟨by kernel_rfl, ?hy6⟩) (by assumption) ?_
        case hy6 => (intro w hSw; (try dsimp only at hSw); obtain ⟨t00, t01, t02, t03⟩ := (HBX3.out.on hSw).all; go_simp; try with_reducible rfl)
        try simp only [Act.put, List.getElem_toArray, List.getElem_cons_zero, List.getElem_cons_succ, List.setIfInBounds_toArray, List.set_cons_zero, List.set_cons_succ]
        refine wpAnyH_take (i := 7) (v := ?_) rfl (by kernel_rfl) (by kernel_rfl) (by kernel_rfl) (fun _ _ _ h => h) (Or.inl ⟨by kernel_rfl, ?hy7⟩) (by assumption) ?_
        case hy7 => (intro w hSw; (try dsimp only at hSw); obtain ⟨t00, t01, t02, t03⟩ := (HBX3.out.on hSw).all; go_simp; try with_reducible rfl)
        try simp only [Act.put, List.getElem_toArray, List.getElem_cons_zero, List.getElem_cons_succ, List.setIfInBounds_toArray, List.set_cons_zero, List.set_cons_succ]
        refine wpAnyH_take (i := 8) (v := ?_) rfl (by kernel_rfl) (by kernel_rfl) (by kernel_rfl) (fun _ _ _ h => h) (Or.inl ⟨by kernel_rfl, ?hy8⟩) (by assumption) ?_
        case hy8 => (intro w hSw; (try dsimp only at hSw); obtain ⟨t00, t01, t02, t03⟩ := (HBX3.out.on hSw).all; go_simp; try with_reducible rfl)
        try simp only [Act.put, List.getElem_toArray, List.getElem_cons_zero, List.getElem_cons_succ, List.setIfInBounds_toArray, List.set_cons_zero, List.set_cons_succ]
        refine wpAnyH_ready (rs := [3]) (by kernel_rfl) (by simp) ?_
        refine AllReadyH.cons rfl (fun K hK => ?_) AllReadyH.nil
        go_simp
        go_wp2_with fail
        refine (radd_any ay Y.length cy Y r.y _ (HRY3.out.on hHeld) (by omega)).mono ?_
        rintro e u103 ⟨v103, rfl, h103⟩
        obtain ⟨a103, c103, rfl, r103⟩ := rdj_of_owns h103.own
        have H103 := hid r103
        replace hHeld := Below.on hHeld h103.bel
        refine hK.out _ _ hHeld (fun _ => ?_)
        clear hK K h103 r103
        refine wpAnyH_ready (rs := [9]) (by kernel_rfl) (by simp) ?_
        refine AllReadyH.cons rfl (fun K hK => ?_) AllReadyH.nil
        go_simp
        go_wp2_with fail
        refine (radd_any a103 (addE Y r.y).length c103 (addE Y r.y) (r.y + r.h) _ H103.out (by omega)).mono ?_
        rintro e u104 ⟨v104, rfl, h104⟩
        have HY3 := hid (h104.base (Below.on HY2.out.bel (Below.on HB3.out hHeld)))
        replace hHeld := Below.on hHeld h104.bel
        refine hK.out _ _ hHeld (fun _ => ?_)
        clear hK K h104
        refine wpAnyH_take (i := 10) (v := ?_) rfl (by kernel_rfl) (by kernel_rfl) (by kernel_rfl) (fun _ _ _ h => h) (Or.inl ⟨by kernel_rfl, ?hy10⟩) (by assumption) ?_
        case hy10 => (intro w hSw; (try dsimp only at hSw); obtain ⟨t00, t01, t02, t03⟩ := (HBX3.out.on hSw).all; go_simp; try with_reducible rfl)
        try simp only [Act.put, List.getElem_toArray, List.getElem_cons_zero, List.getElem_cons_succ, List.setIfInBounds_toArray, List.set_cons_zero, List.set_cons_succ]
        refine wpAnyH_done (by kernel_rfl) ?_ _
        have HX4 := hid (HX3.out.on hHeld)
        clear hHeld HX3
        go_wp2
        go_roundw
        case rel => exact ⟨j + 1, by go_num, by omega, by rw [HSX.out]; exact HX4.out, by rw [HSY.out]; exact HY3.out⟩
        case measure => simp [numOf]; omega
    · have e1 : decide ((j : Int) < (n : Int) + n') = false := decide_eq_false (by omega)
      have HE : Hid ((l ++ m).take j = l ++ m) := List.take_of_length_le (by rw [List.length_append, HL.out, HL'.out]; omega)
      rw [HE.out] at HX HY
      go_wp2
      refine bodyPost_ret (v := .tuple #[u6, u7]) ?_ rfl ⟨_, _, rfl, HX.out, HY.out⟩
      simp [results, Tryz.results69, go_sem]
end Go.Proofs.YtlkodgmnhphfcaaGreatDoor

/- The document's row. -/
namespace Go.Proofs.YtlkodgmnhphfcaaGreatDoor
open Go Go.RowKit

/-- Numbers that may be added and taken. -/
structure Sm (r : Rc) : Prop where
  x : -16777216 ≤ r.x ∧ r.x ≤ 16777216
  y : -16777216 ≤ r.y ∧ r.y ≤ 16777216
  w : -33554432 ≤ r.w ∧ r.w ≤ 33554432
  h : -33554432 ≤ r.h ∧ r.h ≤ 33554432
theorem Sm.ok {r : Rc} (h : Sm r) : r.Ok := by
  obtain ⟨h1, h2, h3, h4⟩ := h
  exact ⟨by omega, by omega, by omega, by omega⟩

theorem CI.set {u : World} {b o q k : Nat} {y : Int} (h : CI u b o y) (hn : b ≠ q ∨ o ≠ k) (v : Value) : CI (u.setCell ⟨q, k, none⟩ v) b o y :=
  ⟨by have := h.lt; simpa [World.setCell] using this, by
    rw [World.cell?_setCell_other _ _ _ _ (fun e => by
      have e1 := congrArg Addr.block e
      have e2 := congrArg Addr.off e
      simp only at e1 e2
      omega)]
    exact h.c⟩
theorem CI.drewN {u : World} {b o : Nat} {y : Int} (h : CI u b o y) (q : Nat) : CI (u.drewN q) b o y := ⟨h.lt, h.c⟩

theorem rccs_last (D : List Rc) (r : Rc) (z : Int) : (rccs (D ++ [r])).set (D.length * 4 + 2) (.int .i64 z) = rccs (D ++ [⟨r.x, r.y, z, r.h⟩]) := by
  rw [rccs_append, rccs_append, List.set_append_right _ _ (by rw [rccs_length]; omega), rccs_length]
  congr 1
  rw [show D.length * 4 + 2 - D.length * 4 = 2 by omega]
  rfl
theorem OwC.setW {w u : World} {g n c : Nat} {D : List Rc} {r : Rc} (h : OwC w u (.slice (some ⟨g, 0, none⟩) n c) (D ++ [r])) (hn : n = D.length + 1) (z : Int) : OwC w (u.setCell ⟨g, D.length * 4 + 2, none⟩ (.int .i64 z)) (.slice (some ⟨g, 0, none⟩) n c) (D ++ [⟨r.x, r.y, z, r.h⟩]) := by
  have h1 := h.own
  have e : (D ++ [r]).length = n := by simp [hn]
  rw [e] at h1
  have hg := (h1.lt g rfl).1
  have h2 := (h1.stored (D.length * 4 + 2) (.int .i64 z)).1
  rw [rccs_last] at h2
  refine ⟨?_, h.bel.setCell (p := ⟨g, _, none⟩) hg _⟩
  rw [show (D ++ [(⟨r.x, r.y, z, r.h⟩ : Rc)]).length = n by simp [hn]]
  exact h2
theorem OwC.form {w u : World} {v : Value} {l : List Rc} (h : OwC w u v l) (hl : l ≠ []) : ∃ g c, v = .slice (some ⟨g, 0, none⟩) l.length c := by
  rcases h.own.2 with ⟨rfl, h0⟩ | ⟨g, cap, cur, rfl, _⟩
  · exact absurd (List.eq_nil_of_length_eq_zero h0) hl
  · exact ⟨g, cap, rfl⟩
theorem OwC.small {w u : World} {g n c : Nat} {l : List Rc} (h : OwC w u (.slice (some ⟨g, 0, none⟩) n c) l) (hn : l.length = n) : n ≤ c ∧ c ≤ 9223372036854775807 := by
  have h1 := h.own
  rw [hn] at h1
  rcases h1.2 with ⟨e, _⟩ | ⟨g', cap, cur, e, _, _, h2, h3, _⟩
  · cases e
  · cases e
    simp only [maxLen] at h3
    omega

theorem rstep_nil (F : Int → Bool) (y h : Int) {x : Int} (hx : F x = true) (x' : Int) : rstep F y h [] x x' = [⟨x, y, x' - x, h⟩] := by rw [rstep, if_neg (by rw [hx]; decide)]; rfl
theorem rstep_eq (F : Int → Bool) (y h : Int) (D : List Rc) (r : Rc) {x : Int} (hx : F x = true) (he : r.x + r.w = x) (x' : Int) : rstep F y h (D ++ [r]) x x' = D ++ [⟨r.x, r.y, x' - r.x, r.h⟩] := by
  rw [rstep, if_neg (by rw [hx]; decide), List.getLast?_concat]
  simp only
  rw [if_pos he, List.dropLast_concat]
theorem rstep_ne (F : Int → Bool) (y h : Int) (D : List Rc) (r : Rc) {x : Int} (hx : F x = true) (he : r.x + r.w ≠ x) (x' : Int) : rstep F y h (D ++ [r]) x x' = (D ++ [r]) ++ [⟨x, y, x' - x, h⟩] := by
  rw [rstep, if_neg (by rw [hx]; decide), List.getLast?_concat]
  simp only
  rw [if_neg he]

set_option maxRecDepth 100000 in
set_option maxHeartbeats 1000000 in
theorem rrow_any (a a' ax : Option Addr) (n c n' c' N cx : Nat) (l m : List Rc) (xs : List Int) (y y1 how : Int) (w : World) (h : RdC w a n c l) (h' : RdC w a' n' c' m) (hx : RdJ w ax N cx xs) (hxs : ∀ x ∈ xs, -16777216 ≤ x ∧ x ≤ 16777216) (hy : -16777216 ≤ y ∧ y ≤ 16777216) (hy1 : -16777216 ≤ y1 ∧ y1 ≤ 16777216) (hN : N ≤ 8192) :
    Calls Tryz.prog 70 #[.slice a n c, .slice a' n' c', .slice ax N cx, .int .i64 y, .int .i64 y1, .int .i64 how] w fun e w' => ∃ v, e = .returned v ∧ OwC w w' v (rgo (fun x => fH how (pt l x y) (pt m x y)) y (y1 - y) [] xs) ∧ ∀ r ∈ rgo (fun x => fH how (pt l x y) (pt m x y)) y (y1 - y) [] xs, Sm r := by
  have H := hid h
  have H' := hid h'
  have HX := hid hx
  have HXS := hid hxs
  have HL := hid hx.len
  have hs := hx.small
  obtain ⟨i0, hi, hz0, hz1, hz2⟩ := info3 infoC
  obtain ⟨F, hF⟩ : ∃ F : Int → Bool, F = fun x => fH how (pt l x y) (pt m x y) := ⟨_, rfl⟩
  have HF := hid hF
  rw [← hF]
  obtain ⟨T, hT⟩ : ∃ T, T = rgo F y (y1 - y) [] xs := ⟨_, rfl⟩
  have HT := hid hT
  rw [← hT]
  have f9 : IntKind.i64.wrap (y1 - y) = y1 - y := by rw [IntKind.wrap_i64]; omega
  clear h h' hx hxs hF hT
  go_enter Tryz.func70, Tryz.ntmps70
  go_wp2
  go_loopw [13, 14] (fun s13 s14 wr => ∃ (i : Nat) (L : List Rc), s14 = .int .i64 i ∧ i ≤ N ∧ L.length ≤ i ∧ rgo F y (y1 - y) L (xs.drop i) = T ∧ (∀ r ∈ L, Sm r) ∧ OwC w wr s13 L) (fun _ s14 _ => N - (numOf s14).toNat)
  case atStart => exact ⟨0, [], rfl, by omega, by simp, HT.out.symm, by simp, OwC.nil w⟩
  case round =>
    obtain ⟨i, L, rfl, hiN, hLi, hq, hS, hO⟩ := hrel
    have HQ := hid hq
    have HS := hid hS
    have HO := hid hO
    clear hq hS hO
    by_cases hgo : i + 1 < N
    · have e1 : decide ((i : Int) + 1 < N) = true := decide_eq_true (by omega)
      have e2 : (i : Int) < N := by omega
      have e3 : (i : Int) + 1 < N := by omega
      have e4 : (0 : Int) ≤ (i : Int) + 1 := by omega
      obtain ⟨bx, ox, rfl, hbx, hcx⟩ := HX.out.pl (by omega)
      obtain ⟨x, hxi⟩ : ∃ x, xs[i]? = some x := ⟨_, List.getElem?_eq_getElem (by rw [HL.out]; omega)⟩
      obtain ⟨x', hxi'⟩ : ∃ x', xs[i + 1]? = some x' := ⟨_, List.getElem?_eq_getElem (by rw [HL.out]; omega)⟩
      have HC0 : Hid (CI w bx (ox + i) x) := ⟨hbx, hcx i x hxi⟩
      have HC1 : Hid (CI w bx (ox + (i + 1)) x') := ⟨hbx, hcx (i + 1) x' hxi'⟩
      have hxr := HXS.out x (List.mem_of_getElem? hxi)
      have hxr' := HXS.out x' (List.mem_of_getElem? hxi')
      have HST : Hid (rgo F y (y1 - y) (rstep F y (y1 - y) L x x') (xs.drop (i + 1)) = T) := by
        have := HQ.out
        rw [drop_at hxi, drop_at hxi', rgo, ← drop_at hxi'] at this
        exact this
      have CI0 := hid (fun u hu hu' => rin_any a a' n c n' c' l m x y how (by omega) (by omega) u hu hu')
      have HFx : Hid (fH how (pt l x y) (pt m x y) = F x) := by rw [HF.out]; rfl
      rw [HFx.out] at CI0
      have c0 := (HC0.out.on HO.out.bel).c
      have f10 : IntKind.i64.wrap ((i : Int) + 1) = (i : Int) + 1 := by rw [IntKind.wrap_i64]; omega
      have f11 : IntKind.i64.wrap (x' - x) = x' - x := by rw [IntKind.wrap_i64]; omega
      clear hcx hxi hxi' HFx HF
      cases hFx : F x
      · rw [hFx] at CI0
        have HN := hid HST.out
        rw [rstep_no hFx] at HN
        go_wp2_with fail
        refine (CI0.out _ (H.out.on HO.out.bel) (H'.out.on HO.out.bel)).mono ?_
        rintro e w2 ⟨rfl, hb2⟩
        have HO2 := hid (HO.out.on hb2)
        clear hb2 CI0 HO
        go_wp2
        go_roundw
        case rel => exact ⟨i + 1, L, by go_num, by omega, by omega, HN.out, HS.out, HO2.out⟩
        case measure => simp [numOf]; omega
      · rw [hFx] at CI0
        rcases List.eq_nil_or_concat L with rfl | ⟨D, r, hDr⟩
        · have HN := hid HST.out
          rw [rstep_nil F y (y1 - y) hFx] at HN
          obtain ⟨av, cv, hv, hrv⟩ := rdc_of_owns HO.out.own (by simp)
          subst hv
          clear hrv
          go_wp2_with fail
          refine (CI0.out _ (H.out.on HO.out.bel) (H'.out.on HO.out.bel)).mono ?_
          rintro e w2 ⟨rfl, hb2⟩
          have HO2 := hid (HO.out.on hb2)
          clear hb2 CI0 HO c0
          go_upto_region 7 with fail
          go_quiet (fail)
          have HO3 := hid (HO2.out.on (below_drewN (Below.refl w2.heap.size w2) nq))
          generalize w2.drewN nq = w4 at HO3 ⊢
          clear HO2
          go_upto_region 9 with fail
          have hSD : CI w4.drew bx (ox + i) x ∧ CI w4.drew bx (ox + (i + 1)) x' := ⟨⟨(HC0.out.on HO3.out.bel).lt, (HC0.out.on HO3.out.bel).c⟩, ⟨(HC1.out.on HO3.out.bel).lt, (HC1.out.on HO3.out.bel).c⟩⟩
          have HSR := hid (srcR w4.drew ⟨x, y, x' - x, y1 - y⟩)
          have HOA := hid (HO3.out.on (u' := w4.drew.alloc (.cells #[.int .i64 x, .int .i64 y, .int .i64 (x' - x), .int .i64 (y1 - y)] 67)) ((Below.refl _ _).drew.alloc (Nat.le_refl _) _))
          have hSA : CI (w4.drew.alloc (.cells #[.int .i64 x, .int .i64 y, .int .i64 (x' - x), .int .i64 (y1 - y)] 67)) bx (ox + i) x ∧ CI (w4.drew.alloc (.cells #[.int .i64 x, .int .i64 y, .int .i64 (x' - x), .int .i64 (y1 - y)] 67)) bx (ox + (i + 1)) x' := ⟨hSD.1.on (below_new _ _), hSD.2.on (below_new _ _)⟩
          have hLL : (([] : List Rc)).length ≤ 8192 := by omega
          clear HO3
          have hHeld := hSD
          refine wp_region_held_drew (S := fun q => CI q bx (ox + i) x ∧ CI q bx (ox + (i + 1)) x') (by kernel_rfl) hHeld (fun _ => ?_)
          refine wpAnyH_take (i := 0) (v := ?_) rfl (by kernel_rfl) (by kernel_rfl) (by kernel_rfl) (fun _ _ _ h => h) (Or.inl ⟨by kernel_rfl, ?hy0⟩) (by assumption) ?_
          case hy0 => (intro w hSw; (try dsimp only at hSw); obtain ⟨t00, t01, t02, t03⟩ := (hSw.1).all; obtain ⟨t10, t11, t12, t13⟩ := (hSw.2).all; go_simp; try with_reducible rfl)
          try simp only [Act.put, List.getElem_toArray, List.getElem_cons_zero, List.setIfInBounds_toArray, List.set_cons_zero, List.set_cons_succ]
          refine wpAnyH_take (i := 1) (v := ?_) rfl (by kernel_rfl) (by kernel_rfl) (by kernel_rfl) (fun _ _ _ h => h) (Or.inl ⟨by kernel_rfl, ?hy1⟩) (by assumption) ?_
          case hy1 => (intro w hSw; (try dsimp only at hSw); obtain ⟨t00, t01, t02, t03⟩ := (hSw.1).all; obtain ⟨t10, t11, t12, t13⟩ := (hSw.2).all; go_simp; try with_reducible rfl)
          try simp only [Act.put, List.getElem_toArray, List.getElem_cons_zero, List.getElem_cons_succ, List.setIfInBounds_toArray, List.set_cons_zero, List.set_cons_succ]
          refine wpAnyH_take (i := 2) (v := ?_) rfl (by kernel_rfl) (by kernel_rfl) (by kernel_rfl) (fun _ _ _ h => h) (Or.inl ⟨by kernel_rfl, ?hy2⟩) (by assumption) ?_
          case hy2 => (intro w hSw; (try dsimp only at hSw); obtain ⟨t00, t01, t02, t03⟩ := (hSw.1).all; obtain ⟨t10, t11, t12, t13⟩ := (hSw.2).all; go_simp; try with_reducible rfl)
          try simp only [Act.put, List.getElem_toArray, List.getElem_cons_zero, List.getElem_cons_succ, List.setIfInBounds_toArray, List.set_cons_zero, List.set_cons_succ]
          refine wpAnyH_take (i := 3) (v := ?_) rfl (by kernel_rfl) (by kernel_rfl) (by kernel_rfl) (fun _ _ _ h => h) (Or.inl ⟨by kernel_rfl, ?hy3⟩) (by assumption) ?_
          case hy3 => (intro w hSw; (try dsimp only at hSw); obtain ⟨t00, t01, t02, t03⟩ := (hSw.1).all; obtain ⟨t10, t11, t12, t13⟩ := (hSw.2).all; go_simp; try with_reducible rfl)
          try simp only [Act.put, List.getElem_toArray, List.getElem_cons_zero, List.getElem_cons_succ, List.setIfInBounds_toArray, List.set_cons_zero, List.set_cons_succ]
          refine wpAnyH_take (i := 4) (v := ?_) rfl (by kernel_rfl) (by kernel_rfl) (by kernel_rfl) (fun _ _ _ h => h) (Or.inl ⟨by kernel_rfl, ?hy4⟩) (by assumption) ?_
          case hy4 => (intro w hSw; (try dsimp only at hSw); obtain ⟨t00, t01, t02, t03⟩ := (hSw.1).all; obtain ⟨t10, t11, t12, t13⟩ := (hSw.2).all; go_simp; try with_reducible rfl)
          try simp only [Act.put, List.getElem_toArray, List.getElem_cons_zero, List.getElem_cons_succ, List.setIfInBounds_toArray, List.set_cons_zero, List.set_cons_succ]
          refine wpAnyH_take (i := 5) (v := ?_) rfl (by kernel_rfl) (by kernel_rfl) (by kernel_rfl) (fun _ _ _ h => h) (Or.inl ⟨by kernel_rfl, ?hy5⟩) (by assumption) ?_
          case hy5 => (intro w hSw; (try dsimp only at hSw); obtain ⟨t00, t01, t02, t03⟩ := (hSw.1).all; obtain ⟨t10, t11, t12, t13⟩ := (hSw.2).all; go_simp; try with_reducible rfl)
          try simp only [Act.put, List.getElem_toArray, List.getElem_cons_zero, List.getElem_cons_succ, List.setIfInBounds_toArray, List.set_cons_zero, List.set_cons_succ]
          refine wpAnyH_take (i := 6) (v := ?_) rfl (by kernel_rfl) (by kernel_rfl) (by kernel_rfl) (fun _ _ _ h => h) (Or.inl ⟨by kernel_rfl, ?hy6⟩) (by assumption) ?_
          case hy6 => (intro w hSw; (try dsimp only at hSw); obtain ⟨t00, t01, t02, t03⟩ := (hSw.1).all; obtain ⟨t10, t11, t12, t13⟩ := (hSw.2).all; go_simp; try with_reducible rfl)
          try simp only [Act.put, List.getElem_toArray, List.getElem_cons_zero, List.getElem_cons_succ, List.setIfInBounds_toArray, List.set_cons_zero, List.set_cons_succ]
          refine wpAnyH_take (i := 7) (v := ?_) rfl (by kernel_rfl) (by kernel_rfl) (by kernel_rfl) (fun _ _ _ h => h) (Or.inl ⟨by kernel_rfl, ?hy7⟩) (by assumption) ?_
          case hy7 => (intro w hSw; (try dsimp only at hSw); obtain ⟨t00, t01, t02, t03⟩ := (hSw.1).all; obtain ⟨t10, t11, t12, t13⟩ := (hSw.2).all; go_simp; try with_reducible rfl)
          try simp only [Act.put, List.getElem_toArray, List.getElem_cons_zero, List.getElem_cons_succ, List.setIfInBounds_toArray, List.set_cons_zero, List.set_cons_succ]
          refine wpAnyH_take (i := 8) (v := ?_) rfl (by kernel_rfl) (by kernel_rfl) (by kernel_rfl) (fun _ _ _ h => h) (Or.inl ⟨by kernel_rfl, ?hy8⟩) (by assumption) ?_
          case hy8 => (intro w hSw; (try dsimp only at hSw); obtain ⟨t00, t01, t02, t03⟩ := (hSw.1).all; obtain ⟨t10, t11, t12, t13⟩ := (hSw.2).all; go_simp; try with_reducible rfl)
          try simp only [Act.put, List.getElem_toArray, List.getElem_cons_zero, List.getElem_cons_succ, List.setIfInBounds_toArray, List.set_cons_zero, List.set_cons_succ]
          refine wpAnyH_take (i := 9) (v := ?_) rfl (by kernel_rfl) (by kernel_rfl) (by kernel_rfl) (fun _ _ _ h => h) (Or.inl ⟨by kernel_rfl, ?hy9⟩) (by assumption) ?_
          case hy9 => (intro w hSw; (try dsimp only at hSw); obtain ⟨t00, t01, t02, t03⟩ := (hSw.1).all; obtain ⟨t10, t11, t12, t13⟩ := (hSw.2).all; go_simp; try with_reducible rfl)
          try simp only [Act.put, List.getElem_toArray, List.getElem_cons_zero, List.getElem_cons_succ, List.setIfInBounds_toArray, List.set_cons_zero, List.set_cons_succ]
          refine wpAnyH_take (i := 10) (v := ?_) rfl (by kernel_rfl) (by kernel_rfl) (by kernel_rfl) (fun _ _ _ h => h) (Or.inl ⟨by kernel_rfl, ?hy10⟩) (by assumption) ?_
          case hy10 => (intro w hSw; (try dsimp only at hSw); obtain ⟨t00, t01, t02, t03⟩ := (hSw.1).all; obtain ⟨t10, t11, t12, t13⟩ := (hSw.2).all; go_simp; try with_reducible rfl)
          try simp only [Act.put, List.getElem_toArray, List.getElem_cons_zero, List.getElem_cons_succ, List.setIfInBounds_toArray, List.set_cons_zero, List.set_cons_succ]
          refine wpAnyH_take (i := 11) (v := ?_) rfl (by kernel_rfl) (by kernel_rfl) (by kernel_rfl) (fun _ _ _ h => h) (Or.inl ⟨by kernel_rfl, ?hy11⟩) (by assumption) ?_
          case hy11 => (intro w hSw; (try dsimp only at hSw); obtain ⟨t00, t01, t02, t03⟩ := (hSw.1).all; obtain ⟨t10, t11, t12, t13⟩ := (hSw.2).all; go_simp; try with_reducible rfl)
          try simp only [Act.put, List.getElem_toArray, List.getElem_cons_zero, List.getElem_cons_succ, List.setIfInBounds_toArray, List.set_cons_zero, List.set_cons_succ]
          refine wpAnyH_take (i := 12) (v := ?_) rfl (by kernel_rfl) (by kernel_rfl) (by kernel_rfl) (fun _ _ _ h => h) (Or.inl ⟨by kernel_rfl, ?hy12⟩) (by assumption) ?_
          case hy12 => (intro w hSw; (try dsimp only at hSw); obtain ⟨t00, t01, t02, t03⟩ := (hSw.1).all; obtain ⟨t10, t11, t12, t13⟩ := (hSw.2).all; go_simp; try with_reducible rfl)
          try simp only [Act.put, List.getElem_toArray, List.getElem_cons_zero, List.getElem_cons_succ, List.setIfInBounds_toArray, List.set_cons_zero, List.set_cons_succ]
          refine wpAnyH_take (i := 13) (v := ?_) rfl (by kernel_rfl) (by kernel_rfl) (by kernel_rfl) (fun _ _ _ h => h) (Or.inl ⟨by kernel_rfl, ?hy13⟩) (by assumption) ?_
          case hy13 => (intro w hSw; (try dsimp only at hSw); obtain ⟨t00, t01, t02, t03⟩ := (hSw.1).all; obtain ⟨t10, t11, t12, t13⟩ := (hSw.2).all; go_simp; try with_reducible rfl)
          try simp only [Act.put, List.getElem_toArray, List.getElem_cons_zero, List.getElem_cons_succ, List.setIfInBounds_toArray, List.set_cons_zero, List.set_cons_succ]
          refine wpAnyH_take (i := 14) (v := ?_) rfl (by kernel_rfl) (by kernel_rfl) (by kernel_rfl) (fun _ _ _ h => h) (Or.inl ⟨by kernel_rfl, ?hy14⟩) (by assumption) ?_
          case hy14 => (intro w hSw; (try dsimp only at hSw); obtain ⟨t00, t01, t02, t03⟩ := (hSw.1).all; obtain ⟨t10, t11, t12, t13⟩ := (hSw.2).all; go_simp; try with_reducible rfl)
          try simp only [Act.put, List.getElem_toArray, List.getElem_cons_zero, List.getElem_cons_succ, List.setIfInBounds_toArray, List.set_cons_zero, List.set_cons_succ]
          refine wpAnyH_take (i := 15) (v := ?_) rfl (by kernel_rfl) (by kernel_rfl) (by kernel_rfl) (fun _ _ _ h => h) (Or.inl ⟨by kernel_rfl, ?hy15⟩) (by assumption) ?_
          case hy15 => (intro w hSw; (try dsimp only at hSw); obtain ⟨t00, t01, t02, t03⟩ := (hSw.1).all; obtain ⟨t10, t11, t12, t13⟩ := (hSw.2).all; go_simp; try with_reducible rfl)
          try simp only [Act.put, List.getElem_toArray, List.getElem_cons_zero, List.getElem_cons_succ, List.setIfInBounds_toArray, List.set_cons_zero, List.set_cons_succ]
          refine wpAnyH_take (i := 16) (v := ?_) rfl (by kernel_rfl) (by kernel_rfl) (by kernel_rfl) (fun _ _ _ h => h) (Or.inl ⟨by kernel_rfl, ?hy16⟩) (by assumption) ?_
          case hy16 => (intro w hSw; (try dsimp only at hSw); obtain ⟨t00, t01, t02, t03⟩ := (hSw.1).all; obtain ⟨t10, t11, t12, t13⟩ := (hSw.2).all; go_simp; try with_reducible rfl)
          try simp only [Act.put, List.getElem_toArray, List.getElem_cons_zero, List.getElem_cons_succ, List.setIfInBounds_toArray, List.set_cons_zero, List.set_cons_succ]
          refine wpAnyH_take (i := 17) (v := ?_) rfl (by kernel_rfl) (by kernel_rfl) (by kernel_rfl) (fun _ _ _ h => h) (Or.inl ⟨by kernel_rfl, ?hy17⟩) (by assumption) ?_
          case hy17 => (intro w hSw; (try dsimp only at hSw); obtain ⟨t00, t01, t02, t03⟩ := (hSw.1).all; obtain ⟨t10, t11, t12, t13⟩ := (hSw.2).all; go_simp; try with_reducible rfl)
          try simp only [Act.put, List.getElem_toArray, List.getElem_cons_zero, List.getElem_cons_succ, List.setIfInBounds_toArray, List.set_cons_zero, List.set_cons_succ]
          refine wpAnyH_take (i := 18) (v := ?_) rfl (by kernel_rfl) (by kernel_rfl) (by kernel_rfl) (fun _ _ _ h => h) (Or.inl ⟨by kernel_rfl, ?hy18⟩) (by assumption) ?_
          case hy18 => (intro w hSw; (try dsimp only at hSw); obtain ⟨t00, t01, t02, t03⟩ := (hSw.1).all; obtain ⟨t10, t11, t12, t13⟩ := (hSw.2).all; go_simp; try with_reducible rfl)
          try simp only [Act.put, List.getElem_toArray, List.getElem_cons_zero, List.getElem_cons_succ, List.setIfInBounds_toArray, List.set_cons_zero, List.set_cons_succ]
          refine wpAnyH_take (i := 19) (v := ?_) rfl (by kernel_rfl) (by kernel_rfl) (by kernel_rfl) (fun _ _ _ h => h) (Or.inl ⟨by kernel_rfl, ?hy19⟩) (by assumption) ?_
          case hy19 => (intro w hSw; (try dsimp only at hSw); obtain ⟨t00, t01, t02, t03⟩ := (hSw.1).all; obtain ⟨t10, t11, t12, t13⟩ := (hSw.2).all; go_simp; try with_reducible rfl)
          try simp only [Act.put, List.getElem_toArray, List.getElem_cons_zero, List.getElem_cons_succ, List.setIfInBounds_toArray, List.set_cons_zero, List.set_cons_succ]
          refine wpAnyH_ready (rs := [20]) (by kernel_rfl) (by simp) ?_
          refine AllReadyH.cons rfl (fun K hK => ?_) AllReadyH.nil
          go_simp
          refine hK.out _ _ hSA (fun _ => ?_)
          clear hK K hHeld hSD
          have hHeld := hSA
          refine wpAnyH_ready (rs := [21]) (by kernel_rfl) (by simp) ?_
          refine AllReadyH.cons rfl (fun K hK => ?_) AllReadyH.nil
          refine step_append_own_src rfl (.tmp 74) (.tmp 94) 25 25 rfl w.heap.size 67 i0 (.agg #[.int .i64 0, .int .i64 0, .int .i64 0, .int .i64 0]) 4 32 Tryz.underlying25 hi hz0 hz1 hz2 rfl _ _ _ (by simp [Act.eval]) HOA.out.own _ 1 _ (by simp [Act.eval]) HSR.out (by simp only [maxLen]; omega) (fits32 (by omega)) HOA.out.size ?_
          intro v3 w3 o3 g3
          have HO5 := hid (HOA.out.grown (m := [⟨x, y, x' - x, y1 - y⟩]) o3 g3)
          clear o3 g3
          have hS5 : CI w3 bx (ox + i) x ∧ CI w3 bx (ox + (i + 1)) x' := ⟨HC0.out.on HO5.out.bel, HC1.out.on HO5.out.bel⟩
          refine hK.out _ _ hS5 (fun _ => ?_)
          clear hK K hHeld
          have hHeld := hS5
          refine wpAnyH_take (i := 22) (v := ?_) rfl (by kernel_rfl) (by kernel_rfl) (by kernel_rfl) (fun _ _ _ h => h) (Or.inl ⟨by kernel_rfl, ?hy22⟩) (by assumption) ?_
          case hy22 => (intro w hSw; (try dsimp only at hSw); obtain ⟨t00, t01, t02, t03⟩ := (hSw.1).all; obtain ⟨t10, t11, t12, t13⟩ := (hSw.2).all; go_simp; try with_reducible rfl)
          try simp only [Act.put, List.getElem_toArray, List.getElem_cons_zero, List.getElem_cons_succ, List.setIfInBounds_toArray, List.set_cons_zero, List.set_cons_succ]
          refine wpAnyH_done (by kernel_rfl) ?_ _
          clear hHeld hSA HOA HSR
          go_wp2
          go_roundw
          case rel => exact ⟨i + 1, ([] : List Rc) ++ [⟨x, y, x' - x, y1 - y⟩], by go_num, by omega, by rw [List.length_append, List.length_singleton]; omega, HN.out, fun q hq => by
            rcases List.mem_append.1 hq with hq | hq
            · exact HS.out q hq
            · simp only [List.mem_singleton] at hq
              subst hq
              exact ⟨hxr, hy, by simp only; omega, by simp only; omega⟩, HO5.out⟩
          case measure => simp [numOf]; omega
        · rw [List.concat_eq_append] at hDr
          subst hDr
          obtain ⟨g, cv, hv⟩ := HO.out.form (by simp)
          subst hv
          have hd1 : (D ++ [r]).length = D.length + 1 := by simp
          have hsm := HS.out r (by simp)
          obtain ⟨sx, sy, sw, sh2⟩ := hsm
          have g1 : IntKind.i64.wrap (r.x + r.w) = r.x + r.w := by rw [IntKind.wrap_i64]; omega
          rw [hd1] at HO ⊢
          obtain ⟨d, hd⟩ : ∃ d, d = D.length := ⟨_, rfl⟩
          have HDd := hid hd
          rw [← hd] at HO ⊢ hd1
          have g2 : IntKind.i64.wrap (d : Int) = (d : Int) := by rw [IntKind.wrap_i64]; omega
          have g4 : (0 : Int) ≤ d := by omega
          have g5 : (d : Int) < (d : Int) + 1 := by omega
          have g6 : decide (0 < d + 1) = true := decide_eq_true (by omega)
          have g7 : (d : Int).toNat = d := by omega
          go_wp2_with fail
          refine (CI0.out _ (H.out.on HO.out.bel) (H'.out.on HO.out.bel)).mono ?_
          rintro e w2 ⟨rfl, hb2⟩
          have hO2 := HO.out.on hb2
          obtain ⟨gl, gb, gel⟩ := hO2.el hd1
          obtain ⟨_, d0, d1, d2, d3⟩ := gel d r (by rw [HDd.out]; simp)
          have HO2 := hid hO2
          have cc0 := (HC0.out.on hO2.bel).c
          clear hb2 CI0 HO c0 hO2 gel hd
          go_upto_region 7 with fail
          cases hq7 : (r.x + r.w == x)
          · have HN := hid HST.out
            rw [rstep_ne F y (y1 - y) D r hFx (by simpa using hq7)] at HN
            go_quiet (fail)
            have HO3 := hid (HO2.out.on (below_drewN (Below.refl w2.heap.size w2) nq))
            generalize w2.drewN nq = w4 at HO3 ⊢
            clear HO2 cc0 d0 d1 d2 d3
            go_upto_region 9 with fail
            rw [← hd1] at HO3 ⊢
            have hSD : CI w4.drew bx (ox + i) x ∧ CI w4.drew bx (ox + (i + 1)) x' := ⟨⟨(HC0.out.on HO3.out.bel).lt, (HC0.out.on HO3.out.bel).c⟩, ⟨(HC1.out.on HO3.out.bel).lt, (HC1.out.on HO3.out.bel).c⟩⟩
            have HSR := hid (srcR w4.drew ⟨x, y, x' - x, y1 - y⟩)
            have HOA := hid (HO3.out.on (u' := w4.drew.alloc (.cells #[.int .i64 x, .int .i64 y, .int .i64 (x' - x), .int .i64 (y1 - y)] 67)) ((Below.refl _ _).drew.alloc (Nat.le_refl _) _))
            have hSA : CI (w4.drew.alloc (.cells #[.int .i64 x, .int .i64 y, .int .i64 (x' - x), .int .i64 (y1 - y)] 67)) bx (ox + i) x ∧ CI (w4.drew.alloc (.cells #[.int .i64 x, .int .i64 y, .int .i64 (x' - x), .int .i64 (y1 - y)] 67)) bx (ox + (i + 1)) x' := ⟨hSD.1.on (below_new _ _), hSD.2.on (below_new _ _)⟩
            have hLL : (D ++ [r]).length ≤ 8192 := by omega
            clear HO3
            have hHeld := hSD
            refine wp_region_held_drew (S := fun q => CI q bx (ox + i) x ∧ CI q bx (ox + (i + 1)) x') (by kernel_rfl) hHeld (fun _ => ?_)
            refine wpAnyH_take (i := 0) (v := ?_) rfl (by kernel_rfl) (by kernel_rfl) (by kernel_rfl) (fun _ _ _ h => h) (Or.inl ⟨by kernel_rfl, ?hy0⟩) (by assumption) ?_
            case hy0 => (intro w hSw; (try dsimp only at hSw); obtain ⟨t00, t01, t02, t03⟩ := (hSw.1).all; obtain ⟨t10, t11, t12, t13⟩ := (hSw.2).all; go_simp; try with_reducible rfl)
            try simp only [Act.put, List.getElem_toArray, List.getElem_cons_zero, List.setIfInBounds_toArray, List.set_cons_zero, List.set_cons_succ]
            refine wpAnyH_take (i := 1) (v := ?_) rfl (by kernel_rfl) (by kernel_rfl) (by kernel_rfl) (fun _ _ _ h => h) (Or.inl ⟨by kernel_rfl, ?hy1⟩) (by assumption) ?_
            case hy1 => (intro w hSw; (try dsimp only at hSw); obtain ⟨t00, t01, t02, t03⟩ := (hSw.1).all; obtain ⟨t10, t11, t12, t13⟩ := (hSw.2).all; go_simp; try with_reducible rfl)
            try simp only [Act.put, List.getElem_toArray, List.getElem_cons_zero, List.getElem_cons_succ, List.setIfInBounds_toArray, List.set_cons_zero, List.set_cons_succ]
            refine wpAnyH_take (i := 2) (v := ?_) rfl (by kernel_rfl) (by kernel_rfl) (by kernel_rfl) (fun _ _ _ h => h) (Or.inl ⟨by kernel_rfl, ?hy2⟩) (by assumption) ?_
            case hy2 => (intro w hSw; (try dsimp only at hSw); obtain ⟨t00, t01, t02, t03⟩ := (hSw.1).all; obtain ⟨t10, t11, t12, t13⟩ := (hSw.2).all; go_simp; try with_reducible rfl)
            try simp only [Act.put, List.getElem_toArray, List.getElem_cons_zero, List.getElem_cons_succ, List.setIfInBounds_toArray, List.set_cons_zero, List.set_cons_succ]
            refine wpAnyH_take (i := 3) (v := ?_) rfl (by kernel_rfl) (by kernel_rfl) (by kernel_rfl) (fun _ _ _ h => h) (Or.inl ⟨by kernel_rfl, ?hy3⟩) (by assumption) ?_
            case hy3 => (intro w hSw; (try dsimp only at hSw); obtain ⟨t00, t01, t02, t03⟩ := (hSw.1).all; obtain ⟨t10, t11, t12, t13⟩ := (hSw.2).all; go_simp; try with_reducible rfl)
            try simp only [Act.put, List.getElem_toArray, List.getElem_cons_zero, List.getElem_cons_succ, List.setIfInBounds_toArray, List.set_cons_zero, List.set_cons_succ]
            refine wpAnyH_take (i := 4) (v := ?_) rfl (by kernel_rfl) (by kernel_rfl) (by kernel_rfl) (fun _ _ _ h => h) (Or.inl ⟨by kernel_rfl, ?hy4⟩) (by assumption) ?_
            case hy4 => (intro w hSw; (try dsimp only at hSw); obtain ⟨t00, t01, t02, t03⟩ := (hSw.1).all; obtain ⟨t10, t11, t12, t13⟩ := (hSw.2).all; go_simp; try with_reducible rfl)
            try simp only [Act.put, List.getElem_toArray, List.getElem_cons_zero, List.getElem_cons_succ, List.setIfInBounds_toArray, List.set_cons_zero, List.set_cons_succ]
            refine wpAnyH_take (i := 5) (v := ?_) rfl (by kernel_rfl) (by kernel_rfl) (by kernel_rfl) (fun _ _ _ h => h) (Or.inl ⟨by kernel_rfl, ?hy5⟩) (by assumption) ?_
            case hy5 => (intro w hSw; (try dsimp only at hSw); obtain ⟨t00, t01, t02, t03⟩ := (hSw.1).all; obtain ⟨t10, t11, t12, t13⟩ := (hSw.2).all; go_simp; try with_reducible rfl)
            try simp only [Act.put, List.getElem_toArray, List.getElem_cons_zero, List.getElem_cons_succ, List.setIfInBounds_toArray, List.set_cons_zero, List.set_cons_succ]
            refine wpAnyH_take (i := 6) (v := ?_) rfl (by kernel_rfl) (by kernel_rfl) (by kernel_rfl) (fun _ _ _ h => h) (Or.inl ⟨by kernel_rfl, ?hy6⟩) (by assumption) ?_
            case hy6 => (intro w hSw; (try dsimp only at hSw); obtain ⟨t00, t01, t02, t03⟩ := (hSw.1).all; obtain ⟨t10, t11, t12, t13⟩ := (hSw.2).all; go_simp; try with_reducible rfl)
            try simp only [Act.put, List.getElem_toArray, List.getElem_cons_zero, List.getElem_cons_succ, List.setIfInBounds_toArray, List.set_cons_zero, List.set_cons_succ]
            refine wpAnyH_take (i := 7) (v := ?_) rfl (by kernel_rfl) (by kernel_rfl) (by kernel_rfl) (fun _ _ _ h => h) (Or.inl ⟨by kernel_rfl, ?hy7⟩) (by assumption) ?_
            case hy7 => (intro w hSw; (try dsimp only at hSw); obtain ⟨t00, t01, t02, t03⟩ := (hSw.1).all; obtain ⟨t10, t11, t12, t13⟩ := (hSw.2).all; go_simp; try with_reducible rfl)
            try simp only [Act.put, List.getElem_toArray, List.getElem_cons_zero, List.getElem_cons_succ, List.setIfInBounds_toArray, List.set_cons_zero, List.set_cons_succ]
            refine wpAnyH_take (i := 8) (v := ?_) rfl (by kernel_rfl) (by kernel_rfl) (by kernel_rfl) (fun _ _ _ h => h) (Or.inl ⟨by kernel_rfl, ?hy8⟩) (by assumption) ?_
            case hy8 => (intro w hSw; (try dsimp only at hSw); obtain ⟨t00, t01, t02, t03⟩ := (hSw.1).all; obtain ⟨t10, t11, t12, t13⟩ := (hSw.2).all; go_simp; try with_reducible rfl)
            try simp only [Act.put, List.getElem_toArray, List.getElem_cons_zero, List.getElem_cons_succ, List.setIfInBounds_toArray, List.set_cons_zero, List.set_cons_succ]
            refine wpAnyH_take (i := 9) (v := ?_) rfl (by kernel_rfl) (by kernel_rfl) (by kernel_rfl) (fun _ _ _ h => h) (Or.inl ⟨by kernel_rfl, ?hy9⟩) (by assumption) ?_
            case hy9 => (intro w hSw; (try dsimp only at hSw); obtain ⟨t00, t01, t02, t03⟩ := (hSw.1).all; obtain ⟨t10, t11, t12, t13⟩ := (hSw.2).all; go_simp; try with_reducible rfl)
            try simp only [Act.put, List.getElem_toArray, List.getElem_cons_zero, List.getElem_cons_succ, List.setIfInBounds_toArray, List.set_cons_zero, List.set_cons_succ]
            refine wpAnyH_take (i := 10) (v := ?_) rfl (by kernel_rfl) (by kernel_rfl) (by kernel_rfl) (fun _ _ _ h => h) (Or.inl ⟨by kernel_rfl, ?hy10⟩) (by assumption) ?_
            case hy10 => (intro w hSw; (try dsimp only at hSw); obtain ⟨t00, t01, t02, t03⟩ := (hSw.1).all; obtain ⟨t10, t11, t12, t13⟩ := (hSw.2).all; go_simp; try with_reducible rfl)
            try simp only [Act.put, List.getElem_toArray, List.getElem_cons_zero, List.getElem_cons_succ, List.setIfInBounds_toArray, List.set_cons_zero, List.set_cons_succ]
            refine wpAnyH_take (i := 11) (v := ?_) rfl (by kernel_rfl) (by kernel_rfl) (by kernel_rfl) (fun _ _ _ h => h) (Or.inl ⟨by kernel_rfl, ?hy11⟩) (by assumption) ?_
            case hy11 => (intro w hSw; (try dsimp only at hSw); obtain ⟨t00, t01, t02, t03⟩ := (hSw.1).all; obtain ⟨t10, t11, t12, t13⟩ := (hSw.2).all; go_simp; try with_reducible rfl)
            try simp only [Act.put, List.getElem_toArray, List.getElem_cons_zero, List.getElem_cons_succ, List.setIfInBounds_toArray, List.set_cons_zero, List.set_cons_succ]
            refine wpAnyH_take (i := 12) (v := ?_) rfl (by kernel_rfl) (by kernel_rfl) (by kernel_rfl) (fun _ _ _ h => h) (Or.inl ⟨by kernel_rfl, ?hy12⟩) (by assumption) ?_
            case hy12 => (intro w hSw; (try dsimp only at hSw); obtain ⟨t00, t01, t02, t03⟩ := (hSw.1).all; obtain ⟨t10, t11, t12, t13⟩ := (hSw.2).all; go_simp; try with_reducible rfl)
            try simp only [Act.put, List.getElem_toArray, List.getElem_cons_zero, List.getElem_cons_succ, List.setIfInBounds_toArray, List.set_cons_zero, List.set_cons_succ]
            refine wpAnyH_take (i := 13) (v := ?_) rfl (by kernel_rfl) (by kernel_rfl) (by kernel_rfl) (fun _ _ _ h => h) (Or.inl ⟨by kernel_rfl, ?hy13⟩) (by assumption) ?_
            case hy13 => (intro w hSw; (try dsimp only at hSw); obtain ⟨t00, t01, t02, t03⟩ := (hSw.1).all; obtain ⟨t10, t11, t12, t13⟩ := (hSw.2).all; go_simp; try with_reducible rfl)
            try simp only [Act.put, List.getElem_toArray, List.getElem_cons_zero, List.getElem_cons_succ, List.setIfInBounds_toArray, List.set_cons_zero, List.set_cons_succ]
            refine wpAnyH_take (i := 14) (v := ?_) rfl (by kernel_rfl) (by kernel_rfl) (by kernel_rfl) (fun _ _ _ h => h) (Or.inl ⟨by kernel_rfl, ?hy14⟩) (by assumption) ?_
            case hy14 => (intro w hSw; (try dsimp only at hSw); obtain ⟨t00, t01, t02, t03⟩ := (hSw.1).all; obtain ⟨t10, t11, t12, t13⟩ := (hSw.2).all; go_simp; try with_reducible rfl)
            try simp only [Act.put, List.getElem_toArray, List.getElem_cons_zero, List.getElem_cons_succ, List.setIfInBounds_toArray, List.set_cons_zero, List.set_cons_succ]
            refine wpAnyH_take (i := 15) (v := ?_) rfl (by kernel_rfl) (by kernel_rfl) (by kernel_rfl) (fun _ _ _ h => h) (Or.inl ⟨by kernel_rfl, ?hy15⟩) (by assumption) ?_
            case hy15 => (intro w hSw; (try dsimp only at hSw); obtain ⟨t00, t01, t02, t03⟩ := (hSw.1).all; obtain ⟨t10, t11, t12, t13⟩ := (hSw.2).all; go_simp; try with_reducible rfl)
            try simp only [Act.put, List.getElem_toArray, List.getElem_cons_zero, List.getElem_cons_succ, List.setIfInBounds_toArray, List.set_cons_zero, List.set_cons_succ]
            refine wpAnyH_take (i := 16) (v := ?_) rfl (by kernel_rfl) (by kernel_rfl) (by kernel_rfl) (fun _ _ _ h => h) (Or.inl ⟨by kernel_rfl, ?hy16⟩) (by assumption) ?_
            case hy16 => (intro w hSw; (try dsimp only at hSw); obtain ⟨t00, t01, t02, t03⟩ := (hSw.1).all; obtain ⟨t10, t11, t12, t13⟩ := (hSw.2).all; go_simp; try with_reducible rfl)
            try simp only [Act.put, List.getElem_toArray, List.getElem_cons_zero, List.getElem_cons_succ, List.setIfInBounds_toArray, List.set_cons_zero, List.set_cons_succ]
            refine wpAnyH_take (i := 17) (v := ?_) rfl (by kernel_rfl) (by kernel_rfl) (by kernel_rfl) (fun _ _ _ h => h) (Or.inl ⟨by kernel_rfl, ?hy17⟩) (by assumption) ?_
            case hy17 => (intro w hSw; (try dsimp only at hSw); obtain ⟨t00, t01, t02, t03⟩ := (hSw.1).all; obtain ⟨t10, t11, t12, t13⟩ := (hSw.2).all; go_simp; try with_reducible rfl)
            try simp only [Act.put, List.getElem_toArray, List.getElem_cons_zero, List.getElem_cons_succ, List.setIfInBounds_toArray, List.set_cons_zero, List.set_cons_succ]
            refine wpAnyH_take (i := 18) (v := ?_) rfl (by kernel_rfl) (by kernel_rfl) (by kernel_rfl) (fun _ _ _ h => h) (Or.inl ⟨by kernel_rfl, ?hy18⟩) (by assumption) ?_
            case hy18 => (intro w hSw; (try dsimp only at hSw); obtain ⟨t00, t01, t02, t03⟩ := (hSw.1).all; obtain ⟨t10, t11, t12, t13⟩ := (hSw.2).all; go_simp; try with_reducible rfl)
            try simp only [Act.put, List.getElem_toArray, List.getElem_cons_zero, List.getElem_cons_succ, List.setIfInBounds_toArray, List.set_cons_zero, List.set_cons_succ]
            refine wpAnyH_take (i := 19) (v := ?_) rfl (by kernel_rfl) (by kernel_rfl) (by kernel_rfl) (fun _ _ _ h => h) (Or.inl ⟨by kernel_rfl, ?hy19⟩) (by assumption) ?_
            case hy19 => (intro w hSw; (try dsimp only at hSw); obtain ⟨t00, t01, t02, t03⟩ := (hSw.1).all; obtain ⟨t10, t11, t12, t13⟩ := (hSw.2).all; go_simp; try with_reducible rfl)
            try simp only [Act.put, List.getElem_toArray, List.getElem_cons_zero, List.getElem_cons_succ, List.setIfInBounds_toArray, List.set_cons_zero, List.set_cons_succ]
            refine wpAnyH_ready (rs := [20]) (by kernel_rfl) (by simp) ?_
            refine AllReadyH.cons rfl (fun K hK => ?_) AllReadyH.nil
            go_simp
            refine hK.out _ _ hSA (fun _ => ?_)
            clear hK K hHeld hSD
            have hHeld := hSA
            refine wpAnyH_ready (rs := [21]) (by kernel_rfl) (by simp) ?_
            refine AllReadyH.cons rfl (fun K hK => ?_) AllReadyH.nil
            refine step_append_own_src rfl (.tmp 74) (.tmp 94) 25 25 rfl w.heap.size 67 i0 (.agg #[.int .i64 0, .int .i64 0, .int .i64 0, .int .i64 0]) 4 32 Tryz.underlying25 hi hz0 hz1 hz2 rfl _ _ _ (by simp [Act.eval]; exact HDd.out) HOA.out.own _ 1 _ (by simp [Act.eval]) HSR.out (by simp only [maxLen]; omega) (fits32 (by omega)) HOA.out.size ?_
            intro v3 w3 o3 g3
            have HO5 := hid (HOA.out.grown (m := [⟨x, y, x' - x, y1 - y⟩]) o3 g3)
            clear o3 g3
            have hS5 : CI w3 bx (ox + i) x ∧ CI w3 bx (ox + (i + 1)) x' := ⟨HC0.out.on HO5.out.bel, HC1.out.on HO5.out.bel⟩
            refine hK.out _ _ hS5 (fun _ => ?_)
            clear hK K hHeld
            have hHeld := hS5
            refine wpAnyH_take (i := 22) (v := ?_) rfl (by kernel_rfl) (by kernel_rfl) (by kernel_rfl) (fun _ _ _ h => h) (Or.inl ⟨by kernel_rfl, ?hy22⟩) (by assumption) ?_
            case hy22 => (intro w hSw; (try dsimp only at hSw); obtain ⟨t00, t01, t02, t03⟩ := (hSw.1).all; obtain ⟨t10, t11, t12, t13⟩ := (hSw.2).all; go_simp; try with_reducible rfl)
            try simp only [Act.put, List.getElem_toArray, List.getElem_cons_zero, List.getElem_cons_succ, List.setIfInBounds_toArray, List.set_cons_zero, List.set_cons_succ]
            refine wpAnyH_done (by kernel_rfl) ?_ _
            clear hHeld hSA HOA HSR
            go_wp2
            go_roundw
            case rel => exact ⟨i + 1, D ++ [r] ++ [⟨x, y, x' - x, y1 - y⟩], by go_num, by omega, by rw [List.length_append, List.length_singleton]; omega, HN.out, fun q hq => by
              rcases List.mem_append.1 hq with hq | hq
              · exact HS.out q hq
              · simp only [List.mem_singleton] at hq
                subst hq
                exact ⟨hxr, hy, by simp only; omega, by simp only; omega⟩, HO5.out⟩
            case measure => simp [numOf]; omega
          · have HN := hid HST.out
            rw [rstep_eq F y (y1 - y) D r hFx (by simpa using hq7)] at HN
            go_quiet (fail)
            have HO3 := hid (HO2.out.on (below_drewN (Below.refl w2.heap.size w2) nq))
            generalize w2.drewN nq = w4 at HO3 ⊢
            clear HO2 cc0 d0 d1 d2 d3
            go_upto_region 8 with fail
            have f12 : IntKind.i64.wrap (x' - r.x) = x' - r.x := by rw [IntKind.wrap_i64]; omega
            obtain ⟨_, _, gel3⟩ := HO3.out.el hd1
            obtain ⟨gl3, d0, d1, d2, d3⟩ := gel3 d r (by rw [HDd.out]; simp)
            have hSD : CI w4.drew g (d * 4) r.x ∧ CI w4.drew bx (ox + (i + 1)) x' := ⟨⟨gl3, d0⟩, ⟨(HC1.out.on HO3.out.bel).lt, (HC1.out.on HO3.out.bel).c⟩⟩
            have fz := HO3.out.fz hd1
            have fz2 : w4.drew.frozen? ⟨g, d * 4 + 2, none⟩ = false := fz _
            have hd2 : w4.drew.cell? ⟨g, d * 4 + 2, none⟩ = some (.int .i64 r.w) := d2
            have HO4 : Hid (OwC w (w4.setCell ⟨g, d * 4 + 2, none⟩ (.int .i64 (x' - r.x))).drew (.slice (some ⟨g, 0, none⟩) (d + 1) cv) (D ++ [⟨r.x, r.y, x' - r.x, r.h⟩])) := by
              have := HO3.out.setW (by rw [HDd.out]) (x' - r.x)
              rw [← HDd.out] at this
              exact this.on (Below.refl _ _).drew
            have hS5 : CI (w4.drew.setCell ⟨g, d * 4 + 2, none⟩ (.int .i64 (x' - r.x))) g (d * 4) r.x ∧ CI (w4.drew.setCell ⟨g, d * 4 + 2, none⟩ (.int .i64 (x' - r.x))) bx (ox + (i + 1)) x' := ⟨hSD.1.set (by omega) _, hSD.2.set (by have := hbx; omega) _⟩
            clear gel3 d0 d1 d2 d3 fz HO3
            have hHeld := hSD
            refine wp_region_held_drew (S := fun q => CI q g (d * 4) r.x ∧ CI q bx (ox + (i + 1)) x') (by kernel_rfl) hHeld (fun _ => ?_)
            refine wpAnyH_take (i := 0) (v := ?_) rfl (by kernel_rfl) (by kernel_rfl) (by kernel_rfl) (fun _ _ _ h => h) (Or.inl ⟨by kernel_rfl, ?hy0⟩) (by assumption) ?_
            case hy0 => (intro w hSw; (try dsimp only at hSw); obtain ⟨t00, t01, t02, t03⟩ := (hSw.1).all; obtain ⟨t10, t11, t12, t13⟩ := (hSw.2).all; go_simp; try with_reducible rfl)
            try simp only [Act.put, List.getElem_toArray, List.getElem_cons_zero, List.setIfInBounds_toArray, List.set_cons_zero, List.set_cons_succ]
            refine wpAnyH_take (i := 1) (v := ?_) rfl (by kernel_rfl) (by kernel_rfl) (by kernel_rfl) (fun _ _ _ h => h) (Or.inl ⟨by kernel_rfl, ?hy1⟩) (by assumption) ?_
            case hy1 => (intro w hSw; (try dsimp only at hSw); obtain ⟨t00, t01, t02, t03⟩ := (hSw.1).all; obtain ⟨t10, t11, t12, t13⟩ := (hSw.2).all; go_simp; try with_reducible rfl)
            try simp only [Act.put, List.getElem_toArray, List.getElem_cons_zero, List.getElem_cons_succ, List.setIfInBounds_toArray, List.set_cons_zero, List.set_cons_succ]
            refine wpAnyH_take (i := 2) (v := ?_) rfl (by kernel_rfl) (by kernel_rfl) (by kernel_rfl) (fun _ _ _ h => h) (Or.inl ⟨by kernel_rfl, ?hy2⟩) (by assumption) ?_
            case hy2 => (intro w hSw; (try dsimp only at hSw); obtain ⟨t00, t01, t02, t03⟩ := (hSw.1).all; obtain ⟨t10, t11, t12, t13⟩ := (hSw.2).all; go_simp; try with_reducible rfl)
            try simp only [Act.put, List.getElem_toArray, List.getElem_cons_zero, List.getElem_cons_succ, List.setIfInBounds_toArray, List.set_cons_zero, List.set_cons_succ]
            refine wpAnyH_take (i := 3) (v := ?_) rfl (by kernel_rfl) (by kernel_rfl) (by kernel_rfl) (fun _ _ _ h => h) (Or.inl ⟨by kernel_rfl, ?hy3⟩) (by assumption) ?_
            case hy3 => (intro w hSw; (try dsimp only at hSw); obtain ⟨t00, t01, t02, t03⟩ := (hSw.1).all; obtain ⟨t10, t11, t12, t13⟩ := (hSw.2).all; go_simp; try with_reducible rfl)
            try simp only [Act.put, List.getElem_toArray, List.getElem_cons_zero, List.getElem_cons_succ, List.setIfInBounds_toArray, List.set_cons_zero, List.set_cons_succ]
            refine wpAnyH_take (i := 4) (v := ?_) rfl (by kernel_rfl) (by kernel_rfl) (by kernel_rfl) (fun _ _ _ h => h) (Or.inl ⟨by kernel_rfl, ?hy4⟩) (by assumption) ?_
            case hy4 => (intro w hSw; (try dsimp only at hSw); obtain ⟨t00, t01, t02, t03⟩ := (hSw.1).all; obtain ⟨t10, t11, t12, t13⟩ := (hSw.2).all; go_simp; try with_reducible rfl)
            try simp only [Act.put, List.getElem_toArray, List.getElem_cons_zero, List.getElem_cons_succ, List.setIfInBounds_toArray, List.set_cons_zero, List.set_cons_succ]
            refine wpAnyH_take (i := 5) (v := ?_) rfl (by kernel_rfl) (by kernel_rfl) (by kernel_rfl) (fun _ _ _ h => h) (Or.inl ⟨by kernel_rfl, ?hy5⟩) (by assumption) ?_
            case hy5 => (intro w hSw; (try dsimp only at hSw); obtain ⟨t00, t01, t02, t03⟩ := (hSw.1).all; obtain ⟨t10, t11, t12, t13⟩ := (hSw.2).all; go_simp; try with_reducible rfl)
            try simp only [Act.put, List.getElem_toArray, List.getElem_cons_zero, List.getElem_cons_succ, List.setIfInBounds_toArray, List.set_cons_zero, List.set_cons_succ]
            refine wpAnyH_take (i := 6) (v := ?_) rfl (by kernel_rfl) (by kernel_rfl) (by kernel_rfl) (fun _ _ _ h => h) (Or.inl ⟨by kernel_rfl, ?hy6⟩) (by assumption) ?_
            case hy6 => (intro w hSw; (try dsimp only at hSw); obtain ⟨t00, t01, t02, t03⟩ := (hSw.1).all; obtain ⟨t10, t11, t12, t13⟩ := (hSw.2).all; go_simp; try with_reducible rfl)
            try simp only [Act.put, List.getElem_toArray, List.getElem_cons_zero, List.getElem_cons_succ, List.setIfInBounds_toArray, List.set_cons_zero, List.set_cons_succ]
            refine wpAnyH_take (i := 7) (v := ?_) rfl (by kernel_rfl) (by kernel_rfl) (by kernel_rfl) (fun _ _ _ h => h) (Or.inl ⟨by kernel_rfl, ?hy7⟩) (by assumption) ?_
            case hy7 => (intro w hSw; (try dsimp only at hSw); obtain ⟨t00, t01, t02, t03⟩ := (hSw.1).all; obtain ⟨t10, t11, t12, t13⟩ := (hSw.2).all; go_simp; try with_reducible rfl)
            try simp only [Act.put, List.getElem_toArray, List.getElem_cons_zero, List.getElem_cons_succ, List.setIfInBounds_toArray, List.set_cons_zero, List.set_cons_succ]
            refine wpAnyH_take (i := 8) (v := ?_) rfl (by kernel_rfl) (by kernel_rfl) (by kernel_rfl) (fun _ _ _ h => h) (Or.inl ⟨by kernel_rfl, ?hy8⟩) (by assumption) ?_
            case hy8 => (intro w hSw; (try dsimp only at hSw); obtain ⟨t00, t01, t02, t03⟩ := (hSw.1).all; obtain ⟨t10, t11, t12, t13⟩ := (hSw.2).all; go_simp; try with_reducible rfl)
            try simp only [Act.put, List.getElem_toArray, List.getElem_cons_zero, List.getElem_cons_succ, List.setIfInBounds_toArray, List.set_cons_zero, List.set_cons_succ]
            refine wpAnyH_take (i := 9) (v := ?_) rfl (by kernel_rfl) (by kernel_rfl) (by kernel_rfl) (fun _ _ _ h => h) (Or.inl ⟨by kernel_rfl, ?hy9⟩) (by assumption) ?_
            case hy9 => (intro w hSw; (try dsimp only at hSw); obtain ⟨t00, t01, t02, t03⟩ := (hSw.1).all; obtain ⟨t10, t11, t12, t13⟩ := (hSw.2).all; go_simp; try with_reducible rfl)
            try simp only [Act.put, List.getElem_toArray, List.getElem_cons_zero, List.getElem_cons_succ, List.setIfInBounds_toArray, List.set_cons_zero, List.set_cons_succ]
            refine wpAnyH_take (i := 10) (v := ?_) rfl (by kernel_rfl) (by kernel_rfl) (by kernel_rfl) (fun _ _ _ h => h) (Or.inl ⟨by kernel_rfl, ?hy10⟩) (by assumption) ?_
            case hy10 => (intro w hSw; (try dsimp only at hSw); obtain ⟨t00, t01, t02, t03⟩ := (hSw.1).all; obtain ⟨t10, t11, t12, t13⟩ := (hSw.2).all; go_simp; try with_reducible rfl)
            try simp only [Act.put, List.getElem_toArray, List.getElem_cons_zero, List.getElem_cons_succ, List.setIfInBounds_toArray, List.set_cons_zero, List.set_cons_succ]
            refine wpAnyH_take (i := 11) (v := ?_) rfl (by kernel_rfl) (by kernel_rfl) (by kernel_rfl) (fun _ _ _ h => h) (Or.inl ⟨by kernel_rfl, ?hy11⟩) (by assumption) ?_
            case hy11 => (intro w hSw; (try dsimp only at hSw); obtain ⟨t00, t01, t02, t03⟩ := (hSw.1).all; obtain ⟨t10, t11, t12, t13⟩ := (hSw.2).all; go_simp; try with_reducible rfl)
            try simp only [Act.put, List.getElem_toArray, List.getElem_cons_zero, List.getElem_cons_succ, List.setIfInBounds_toArray, List.set_cons_zero, List.set_cons_succ]
            refine wpAnyH_take (i := 12) (v := ?_) rfl (by kernel_rfl) (by kernel_rfl) (by kernel_rfl) (fun _ _ _ h => h) (Or.inl ⟨by kernel_rfl, ?hy12⟩) (by assumption) ?_
            case hy12 => (intro w hSw; (try dsimp only at hSw); obtain ⟨t00, t01, t02, t03⟩ := (hSw.1).all; obtain ⟨t10, t11, t12, t13⟩ := (hSw.2).all; go_simp; try with_reducible rfl)
            try simp only [Act.put, List.getElem_toArray, List.getElem_cons_zero, List.getElem_cons_succ, List.setIfInBounds_toArray, List.set_cons_zero, List.set_cons_succ]
            refine wpAnyH_take (i := 13) (v := ?_) rfl (by kernel_rfl) (by kernel_rfl) (by kernel_rfl) (fun _ _ _ h => h) (Or.inl ⟨by kernel_rfl, ?hy13⟩) (by assumption) ?_
            case hy13 => (intro w hSw; (try dsimp only at hSw); obtain ⟨t00, t01, t02, t03⟩ := (hSw.1).all; obtain ⟨t10, t11, t12, t13⟩ := (hSw.2).all; go_simp; try with_reducible rfl)
            try simp only [Act.put, List.getElem_toArray, List.getElem_cons_zero, List.getElem_cons_succ, List.setIfInBounds_toArray, List.set_cons_zero, List.set_cons_succ]
            refine wpAnyH_take (i := 14) (v := ?_) rfl (by kernel_rfl) (by kernel_rfl) (by kernel_rfl) (fun _ _ _ h => h) (Or.inl ⟨by kernel_rfl, ?hy14⟩) (by assumption) ?_
            case hy14 => (intro w hSw; (try dsimp only at hSw); obtain ⟨t00, t01, t02, t03⟩ := (hSw.1).all; obtain ⟨t10, t11, t12, t13⟩ := (hSw.2).all; go_simp; try with_reducible rfl)
            try simp only [Act.put, List.getElem_toArray, List.getElem_cons_zero, List.getElem_cons_succ, List.setIfInBounds_toArray, List.set_cons_zero, List.set_cons_succ]
            refine wpAnyH_take (i := 15) (v := ?_) rfl (by kernel_rfl) (by kernel_rfl) (by kernel_rfl) (fun _ _ _ h => h) (Or.inl ⟨by kernel_rfl, ?hy15⟩) (by assumption) ?_
            case hy15 => (intro w hSw; (try dsimp only at hSw); obtain ⟨t00, t01, t02, t03⟩ := (hSw.1).all; obtain ⟨t10, t11, t12, t13⟩ := (hSw.2).all; go_simp; try with_reducible rfl)
            try simp only [Act.put, List.getElem_toArray, List.getElem_cons_zero, List.getElem_cons_succ, List.setIfInBounds_toArray, List.set_cons_zero, List.set_cons_succ]
            refine wpAnyH_take (i := 16) (v := ?_) rfl (by kernel_rfl) (by kernel_rfl) (by kernel_rfl) (fun _ _ _ h => h) (Or.inl ⟨by kernel_rfl, ?hy16⟩) (by assumption) ?_
            case hy16 => (intro w hSw; (try dsimp only at hSw); obtain ⟨t00, t01, t02, t03⟩ := (hSw.1).all; obtain ⟨t10, t11, t12, t13⟩ := (hSw.2).all; go_simp; try with_reducible rfl)
            try simp only [Act.put, List.getElem_toArray, List.getElem_cons_zero, List.getElem_cons_succ, List.setIfInBounds_toArray, List.set_cons_zero, List.set_cons_succ]
            refine wpAnyH_ready (rs := [17]) (by kernel_rfl) (by simp) ?_
            refine AllReadyH.cons rfl (fun K hK => ?_) AllReadyH.nil
            go_simp
            refine hK.out _ _ hS5 (fun _ => ?_)
            clear hK K hHeld
            have hHeld := hS5
            refine wpAnyH_done (by kernel_rfl) ?_ _
            clear hHeld hS5 hSD
            go_wp2
            go_roundw
            case rel => exact ⟨i + 1, D ++ [⟨r.x, r.y, x' - r.x, r.h⟩], by go_num, by omega, by simp only [List.length_append, List.length_singleton] at hLi ⊢; omega, HN.out, fun q hq => by
              rcases List.mem_append.1 hq with hq | hq
              · exact HS.out q (by simp [hq])
              · simp only [List.mem_singleton] at hq
                subst hq
                exact ⟨sx, sy, by simp only; omega, sh2⟩, HO4.out⟩
            case measure => simp [numOf]; omega
    · have e1 : decide ((i : Int) + 1 < N) = false := decide_eq_false (by omega)
      have HE : Hid (L = T) := by
        have := HQ.out
        rcases Nat.lt_or_ge i N with h | h
        · obtain ⟨x, hxi⟩ : ∃ x, xs[i]? = some x := ⟨_, List.getElem?_eq_getElem (by rw [HL.out]; omega)⟩
          rw [drop_at hxi, List.drop_eq_nil_of_le (by rw [HL.out]; omega), rgo] at this
          · exact this
          · intros; simp at *
        · rw [List.drop_eq_nil_of_le (by rw [HL.out]; omega), rgo] at this
          · exact this
          · intros; simp at *
      go_wp2
      go_ret
      rw [← HE.out]
      exact ⟨_, rfl, HO.out, HS.out⟩
end Go.Proofs.YtlkodgmnhphfcaaGreatDoor

/- The document's alike. -/
namespace Go.Proofs.YtlkodgmnhphfcaaGreatDoor
open Go Go.RowKit

theorem alk_cons (p q : Rc) (l m : List Rc) : alk (p :: l) (q :: m) = (decide (p.y + p.h = q.y) && eqs (p :: l) (q :: m)) := by
  rw [alk, eqs]
  congr 1
  congr 1
  rw [Bool.eq_iff_iff]
  simp

set_option maxRecDepth 100000 in
set_option maxHeartbeats 1000000 in
theorem ralike_any (a a' : Option Addr) (n c n' c' : Nat) (l m : List Rc) (w : World) (h : RdC w a n c l) (h' : RdC w a' n' c' m) (hk : ∀ x ∈ l, Sm x) :
    Calls Tryz.prog 71 #[.slice a n c, .slice a' n' c'] w fun e w' => e = .returned (.bool (alk l m)) ∧ ∃ q, w' = w.drewN q := by
  have hl := h.len
  have hl' := h'.len
  have hn63 := h.small.1
  have hn63' := h'.small.1
  cases l with
  | nil =>
    obtain rfl : n = 0 := hl.symm
    have HE : Hid (alk [] m = false) := by rw [Hid, alk]; simp
    cases m with
    | nil =>
      obtain rfl : n' = 0 := hl'.symm
      clear h h' hk
      go_enter Tryz.func71, Tryz.ntmps71
      go_wp2
      go_quiet (fail)
      go_wp2
      go_ret
      rw [HE.out]
      exact ⟨rfl, _, rfl⟩
    | cons q m =>
      have hn1 : 0 < n' := by rw [← hl']; simp
      have e1 : ((0 : Int) == n') = false := by simp; omega
      have e2 : ((0 : Int) != n') = true := by simp; omega
      have e6 : ¬ (0 : Int) = n' := by omega
      have e7 : (0 != n') = true := by simp; omega
      have e8 : ¬ 0 = n' := by omega
      have e9 : (0 == n') = false := by simp; omega
      clear h h' hk hl'
      go_enter Tryz.func71, Tryz.ntmps71
      go_wp2
      go_quiet (fail)
      go_wp2
      go_ret
      rw [HE.out]
      exact ⟨rfl, _, rfl⟩
  | cons p l =>
    have hn0 : 0 < n := by rw [← hl]; simp
    by_cases hnn : n = n'
    · subst hnn
      cases m with
      | nil => simp at hl'; omega
      | cons q m =>
        have e2 : ((n : Int) == 0) = false := by simp; omega
        have e3 : (0 : Int) < n := by omega
        obtain ⟨b, off, rfl, hb, hel⟩ := h.pl hn0
        obtain ⟨b', off', rfl, hb', hel'⟩ := h'.pl hn0
        obtain ⟨_, _, y0, _, h0⟩ := hel 0 p rfl
        obtain ⟨_, _, y1, _, _⟩ := hel' 0 q rfl
        simp only [Nat.zero_mul, Nat.add_zero] at y0 h0 y1
        obtain ⟨sx, sy, sw, sh2⟩ := hk p (by simp)
        have f1 : IntKind.i64.wrap (p.y + p.h) = p.y + p.h := by rw [IntKind.wrap_i64]; omega
        have H := hid h
        have H' := hid h'
        have HL := hid hl
        have HL' := hid hl'
        clear hel hel' h h' hk hl hl'
        cases hq : (p.y + p.h == q.y)
        · have HE : Hid (alk (p :: l) (q :: m) = false) := by rw [Hid, alk_cons, decide_eq_false (by simpa using hq)]; rfl
          go_enter Tryz.func71, Tryz.ntmps71
          go_wp2
          go_quiet (fail)
          go_wp2
          go_ret
          rw [HE.out]
          exact ⟨rfl, _, rfl⟩
        · have HE : Hid (alk (p :: l) (q :: m) = eqs (p :: l) (q :: m)) := by rw [Hid, alk_cons, decide_eq_true (by simpa using hq)]; rfl
          go_enter Tryz.func71, Tryz.ntmps71
          go_wp2
          go_quiet (fail)
          go_wp2
          obtain ⟨A, hA⟩ : ∃ A, A = p :: l := ⟨_, rfl⟩
          obtain ⟨B, hB⟩ : ∃ B, B = q :: m := ⟨_, rfl⟩
          rw [← hA, ← hB] at HE
          rw [← hA] at H HL
          rw [← hB] at H' HL'
          have HAB : Hid (p :: l = A ∧ q :: m = B) := ⟨hA.symm, hB.symm⟩
          clear hA hB y0 y1 h0
          go_loopw [5] (fun i wr => ∃ j : Nat, i = .int .i64 j ∧ j ≤ n ∧ eqs (A.drop j) (B.drop j) = eqs A B ∧ ∃ q, wr = w.drewN q) (fun i _ => n - (numOf i).toNat)
          case atStart => exact ⟨0, rfl, by omega, rfl, _, rfl⟩
          case round =>
            obtain ⟨j, rfl, hj, hqq, k, rfl⟩ := hrel
            by_cases hgo : j < n
            · have e1 : decide ((j : Int) < n) = true := decide_eq_true (by omega)
              have e4 : (j : Int) < n := by omega
              obtain ⟨b1, off1, x, hbo, _, hx, _, hex⟩ := H.out.el hgo
              obtain ⟨b2, off2, y, hbo', _, hy, _, hey⟩ := H'.out.el hgo
              cases hbo
              cases hbo'
              obtain ⟨_, c0, c1, c2, c3⟩ := hex
              obtain ⟨_, d0, d1, d2, d3⟩ := hey
              have HD : Hid (eqs A B = (ssp x y && eqs (A.drop (j + 1)) (B.drop (j + 1)))) := by
                rw [Hid, ← hqq, drop_at hx, drop_at hy, eqs_cons]
              clear hx hy hqq
              cases h1 : (x.x == y.x)
              · have h1' : (x.x != y.x) = true := by rw [bne, h1]; rfl
                have HF : Hid (eqs A B = false) := by rw [Hid, HD.out, ssp, decide_eq_false (by simpa using h1)]; rfl
                go_wp2
                go_quiet (fail)
                go_wp2
                go_ret
                rw [HAB.out.1, HAB.out.2, HE.out, HF.out, World.drewN_drewN]
                exact ⟨rfl, _, rfl⟩
              · have h1' : (x.x != y.x) = false := by rw [bne, h1]; rfl
                cases h2 : (x.w == y.w)
                · have h2' : (x.w != y.w) = true := by rw [bne, h2]; rfl
                  have HF : Hid (eqs A B = false) := by rw [Hid, HD.out, ssp, decide_eq_false (p := x.w = y.w) (by simpa using h2), Bool.and_false]; rfl
                  go_wp2
                  go_quiet (fail)
                  go_wp2
                  go_ret
                  rw [HAB.out.1, HAB.out.2, HE.out, HF.out, World.drewN_drewN]
                  exact ⟨rfl, _, rfl⟩
                · have h2' : (x.w != y.w) = false := by rw [bne, h2]; rfl
                  have HF : Hid (eqs (A.drop (j + 1)) (B.drop (j + 1)) = eqs A B) := by rw [Hid, HD.out, ssp, decide_eq_true (by simpa using h1), decide_eq_true (by simpa using h2)]; rfl
                  go_wp2
                  go_quiet (fail)
                  go_wp2
                  go_roundw
                  case rel => exact ⟨j + 1, by go_num, by omega, HF.out, _, rfl⟩
                  case measure => simp [numOf]; omega
            · have e1 : decide ((j : Int) < n) = false := decide_eq_false (by omega)
              have HF : Hid (eqs A B = true) := by
                rw [Hid, ← hqq, List.drop_eq_nil_of_le (by rw [HL.out]; omega), List.drop_eq_nil_of_le (by rw [HL'.out]; omega)]
                rfl
              clear hqq
              go_wp2
              go_ret
              rw [HAB.out.1, HAB.out.2, HE.out, HF.out]
              exact ⟨rfl, _, rfl⟩
    · have HE : Hid (alk (p :: l) m = false) := by
        rw [Hid]
        cases m with
        | nil => rw [alk]; simp
        | cons q m => rw [alk_cons, eqs_len (by omega), Bool.and_false]
      have e1 : ((n : Int) == n') = false := by simp; omega
      have e2 : ((n : Int) != n') = true := by simp; omega
      have e6 : ¬ (n : Int) = n' := by omega
      have e7 : (n != n') = true := by simp; omega
      have e9 : (n == n') = false := by simp; omega
      clear h h' hk hl hl'
      go_enter Tryz.func71, Tryz.ntmps71
      go_wp2
      go_quiet (fail)
      go_wp2
      go_ret
      rw [HE.out]
      exact ⟨rfl, _, rfl⟩
end Go.Proofs.YtlkodgmnhphfcaaGreatDoor

/- The document's make1. -/
namespace Go.Proofs.YtlkodgmnhphfcaaGreatDoor
open Go Go.RowKit

/-- The first k higher by d. -/
def gk (d : Int) (k : Nat) (l : List Rc) : List Rc := (l.take k).map (fun r => ⟨r.x, r.y, r.w, r.h + d⟩) ++ l.drop k
theorem gk_len (d : Int) (k : Nat) (l : List Rc) : (gk d k l).length = l.length := by
  rw [gk, List.length_append, List.length_map, ← List.length_append, List.take_append_drop]
theorem gk_at {d : Int} {k : Nat} {l : List Rc} {r : Rc} (h : l[k]? = some r) : (gk d k l)[k]? = some r := by
  have hj : k < l.length := (List.getElem?_eq_some_iff.1 h).1
  have hl : ((l.take k).map (fun r => (⟨r.x, r.y, r.w, r.h + d⟩ : Rc))).length = k := by simp; omega
  rw [gk, List.getElem?_append_right (by omega), hl, Nat.sub_self, List.getElem?_drop, Nat.add_zero]
  exact h
theorem gk_set {d : Int} {k : Nat} {l : List Rc} {r : Rc} (h : l[k]? = some r) : (gk d k l).set k ⟨r.x, r.y, r.w, r.h + d⟩ = gk d (k + 1) l := by
  have hj : k < l.length := (List.getElem?_eq_some_iff.1 h).1
  have hl : ((l.take k).map (fun r => (⟨r.x, r.y, r.w, r.h + d⟩ : Rc))).length = k := by simp; omega
  rw [gk, List.set_append_right _ _ (by omega), hl, Nat.sub_self, drop_at h, List.set_cons_zero, gk, List.take_add_one, h]
  simp
theorem gk_all (d : Int) (l : List Rc) : gk d l.length l = grow d l := by
  rw [gk, List.take_length, List.drop_length, List.append_nil]
  rfl
theorem rccs_setH {l : List Rc} {j : Nat} {r : Rc} (h : l[j]? = some r) (z : Int) : (rccs l).set (j * 4 + 3) (.int .i64 z) = rccs (l.set j ⟨r.x, r.y, r.w, z⟩) := by
  induction l generalizing j with
  | nil => simp at h
  | cons x l ih =>
    cases j with
    | zero =>
      simp only [List.getElem?_cons_zero, Option.some.injEq] at h
      subst h
      simp [rccs_cons]
    | succ j =>
      rw [List.getElem?_cons_succ] at h
      rw [List.set_cons_succ, rccs_cons, rccs_cons, ← ih h, show (j + 1) * 4 + 3 = j * 4 + 3 + 4 by omega]
      simp only [List.set_cons_succ]
theorem OwC.setH {w u : World} {g n c : Nat} {l : List Rc} {j : Nat} {r : Rc} (h : OwC w u (.slice (some ⟨g, 0, none⟩) n c) l) (hn : l.length = n) (hr : l[j]? = some r) (z : Int) : OwC w (u.setCell ⟨g, j * 4 + 3, none⟩ (.int .i64 z)) (.slice (some ⟨g, 0, none⟩) n c) (l.set j ⟨r.x, r.y, r.w, z⟩) := by
  have h1 := h.own
  rw [hn] at h1
  have hg := (h1.lt g rfl).1
  have h2 := (h1.stored (j * 4 + 3) (.int .i64 z)).1
  rw [rccs_setH hr] at h2
  exact ⟨by rw [List.length_set, hn]; exact h2, h.bel.setCell (p := ⟨g, _, none⟩) hg _⟩
theorem OwC.set {w u : World} {v : Value} {l : List Rc} (h : OwC w u v l) {g k : Nat} (hn : v.ownBlock ≠ some g) (hg : w.heap.size ≤ g) (x : Value) : OwC w (u.setCell ⟨g, k, none⟩ x) v l := ⟨ownsRow_set h.own ⟨g, k, none⟩ hn x, h.bel.setCell (p := ⟨g, k, none⟩) hg _⟩

/-- make1's state: what is put by, and the last band, apart from one another. -/
structure M1 (w u : World) (s9 s10 : Value) (L last : List Rc) : Prop where
  fst : OwC w u s9 L
  snd : OwC w u s10 last
  ne : ∀ k, s9.ownBlock = some k → s10.ownBlock ≠ some k
theorem M1.on {w u u' : World} {s9 s10 : Value} {L last : List Rc} (h : M1 w u s9 s10 L last) (hb : Below u.heap.size u u') : M1 w u' s9 s10 L last := ⟨h.fst.on hb, h.snd.on hb, h.ne⟩

set_option maxRecDepth 100000 in
set_option maxHeartbeats 1000000 in
theorem rmake1_any (a a' : Option Addr) (n c n' c' : Nat) (l m : List Rc) (how : Int) (w : World) (h : RdC w a n c l) (h' : RdC w a' n' c' m) (hkl : ∀ x ∈ l, Ck x) (hkm : ∀ x ∈ m, Ck x) (hn : n + n' ≤ 4096) :
    Calls Tryz.prog 47 #[.slice a n c, .slice a' n' c', .int .i64 how] w fun e w' => ∃ v, e = .returned v ∧ OwC w w' v (mk (fH how) l m) := by
  have H := hid h
  have H' := hid h'
  have KL := hid hkl
  have KM := hid hkm
  have HXL : Hid ((xsOf (l ++ m)).length ≤ 8192) := by
    have := xs_length (l ++ m)
    rw [List.length_append, h.len, h'.len] at this
    rw [Hid]
    omega
  have HYL : Hid ((ysOf (l ++ m)).length ≤ 8192) := by
    have := ys_length (l ++ m)
    rw [List.length_append, h.len, h'.len] at this
    rw [Hid]
    omega
  have CE := hid (redges_any a a' n c n' c' l m w h h' (ck_both hkl hkm) hn)
  have HT := hid (mgo_mk (f := fH how) (fH_ff how) hkl hkm)
  have HYR : Hid (∀ y ∈ ysOf (l ++ m), -16777216 ≤ y ∧ y ≤ 16777216) := fun y hy => ys_in (ck_both hkl hkm) hy
  have HXR : Hid (∀ y ∈ xsOf (l ++ m), -16777216 ≤ y ∧ y ≤ 16777216) := fun y hy => xs_in (ck_both hkl hkm) hy
  obtain ⟨RR, hRR⟩ : ∃ RR : Int → Int → List Rc, RR = fun y y' => rgo (fun x => fH how (pt l x y) (pt m x y)) y (y' - y) [] (xsOf (l ++ m)) := ⟨_, rfl⟩
  have HRR := hid hRR
  rw [← hRR] at HT
  have HRP : Hid (∀ y y', (RR y y').length ≤ 8192 ∧ ∀ r ∈ RR y y', r.y = y ∧ r.h = y' - y) := fun y y' => by
    have e : RR y y' = prs y (y' - y) (lin (fH how) l m y) := by rw [HRR.out]; exact row_prs (fH_ff how) y (y' - y)
    rw [e]
    refine ⟨?_, fun r hr => ?_⟩
    · have h1 := prs_len y (y' - y) (lin (fH how) l m y)
      have h2 : (lin (fH how) l m y).length ≤ (xsOf (l ++ m)).length := (chg_sub _ _ _).length_le
      have h3 := HXL.out
      omega
    · obtain ⟨g1, g2, _⟩ := prs_mem ((lin_edges (fH_ff how) KL.out KM.out).rise y) hr
      exact ⟨g1, g2⟩
  generalize mk (fH how) l m = T at HT ⊢
  obtain ⟨i0, hi, hz0, hz1, hz2⟩ := info3 infoC
  clear h h' hkl hkm hRR
  generalize ysOf (l ++ m) = ys at CE HT HYL HYR
  go_enter Tryz.func47, Tryz.ntmps47
  go_wp2_with fail
  refine CE.out.mono ?_
  rintro e w1 ⟨vx, vy, rfl, hvx, hvy⟩
  obtain ⟨ax, cx, rfl, hrx⟩ := rdj_of_owns hvx.own
  obtain ⟨ay, cy, rfl, hry⟩ := rdj_of_owns hvy.own
  have HRX := hid hrx
  have HRY := hid hry
  have HB1 := hid hvx.bel
  have hsy := hry.small
  have hyl := HYL.out
  have H1 := hid (H.out.on hvx.bel)
  have H1' := hid (H'.out.on hvx.bel)
  clear hvx hvy hrx hry CE
  go_wp2
  go_loopw [9, 10, 11] (fun s9 s10 s11 wr => ∃ (i : Nat) (L last : List Rc), s11 = .int .i64 i ∧ i ≤ ys.length ∧ L.length ≤ i * 8192 ∧ last.length ≤ 8192 ∧ mgo RR L last (ys.drop i) = T ∧ (∀ r ∈ last, Sm r ∧ ∀ y, ys[i]? = some y → r.y + r.h = y) ∧ M1 w1 wr s9 s10 L last) (fun _ _ s11 _ => ys.length - (numOf s11).toNat)
  case atStart => exact ⟨0, [], [], rfl, by omega, by simp, by simp, HT.out, by simp, OwC.nil w1, OwC.nil w1, fun k hk => by cases hk⟩
  case round =>
    obtain ⟨i, L, last, rfl, hin, hLl, hll, hq, hS, hM⟩ := hrel
    have HQ := hid hq
    have HS := hid hS
    have HM := hid hM
    clear hq hS hM
    by_cases hgo : i + 1 < ys.length
    · have e1 : decide ((i : Int) + 1 < ys.length) = true := decide_eq_true (by omega)
      have e2 : (i : Int) < ys.length := by omega
      have e3 : (i : Int) + 1 < ys.length := by omega
      have e4 : (0 : Int) ≤ (i : Int) + 1 := by omega
      have f10 : IntKind.i64.wrap ((i : Int) + 1) = (i : Int) + 1 := by rw [IntKind.wrap_i64]; omega
      obtain ⟨by_, oy, rfl, hby, hcy⟩ := HRY.out.pl (by omega)
      obtain ⟨y, hyi⟩ : ∃ y, ys[i]? = some y := ⟨_, List.getElem?_eq_getElem (by omega)⟩
      obtain ⟨y', hyi'⟩ : ∃ y', ys[i + 1]? = some y' := ⟨_, List.getElem?_eq_getElem (by omega)⟩
      have HC0 : Hid (CI w1 by_ (oy + i) y) := ⟨hby, hcy i y hyi⟩
      have HC1 : Hid (CI w1 by_ (oy + (i + 1)) y') := ⟨hby, hcy (i + 1) y' hyi'⟩
      have hyr := HYR.out y (List.mem_of_getElem? hyi)
      have hyr' := HYR.out y' (List.mem_of_getElem? hyi')
      have HYI := hid hyi
      have HYI' := hid hyi'
      have HST : Hid ((if alk last (RR y y') = true then mgo RR L (grow (y' - y) last) (ys.drop (i + 1)) else mgo RR (L ++ last) (RR y y') (ys.drop (i + 1))) = T) := by
        have := HQ.out
        rw [drop_at hyi, drop_at hyi', mgo, ← drop_at hyi'] at this
        exact this
      have CR := hid (fun u hu hu' hx => rrow_any a a' ax n c n' c' (xsOf (l ++ m)).length cx l m (xsOf (l ++ m)) y y' how u hu hu' hx HXR.out hyr hyr' HXL.out)
      have HRe : Hid (rgo (fun x => fH how (pt l x y) (pt m x y)) y (y' - y) [] (xsOf (l ++ m)) = RR y y') := by rw [HRR.out]; rfl
      rw [HRe.out] at CR
      have HP := hid (HRP.out y y')
      have HCW0 := hid (HC0.out.on HM.out.fst.bel)
      have HCW1 := hid (HC1.out.on HM.out.fst.bel)
      clear hcy hyi hyi' HRe
      generalize RR y y' = R at CR HST HP
      go_upto_region 6 with fail
      refine wp_region_held_drew (S := fun x => Below wr.heap.size wr x) (by kernel_rfl) (Below.refl _ _).drew (fun hHeld => ?_)
      have hHeld : Below wr.heap.size wr wr.drew := hHeld
      refine wpAnyH_take (i := 0) (v := ?_) rfl (by kernel_rfl) (by kernel_rfl) (by kernel_rfl) (fun _ _ _ h => h) (Or.inl ⟨by kernel_rfl, ?hy0⟩) (by assumption) ?_
      case hy0 => (intro w hSw; (try dsimp only at hSw); obtain ⟨t00, t01, t02, t03⟩ := (HCW0.out.on hSw).all; obtain ⟨t10, t11, t12, t13⟩ := (HCW1.out.on hSw).all; go_simp; try with_reducible rfl)
      try simp only [Act.put, List.getElem_toArray, List.getElem_cons_zero, List.setIfInBounds_toArray, List.set_cons_zero, List.set_cons_succ]
      refine wpAnyH_take (i := 1) (v := ?_) rfl (by kernel_rfl) (by kernel_rfl) (by kernel_rfl) (fun _ _ _ h => h) (Or.inl ⟨by kernel_rfl, ?hy1⟩) (by assumption) ?_
      case hy1 => (intro w hSw; (try dsimp only at hSw); obtain ⟨t00, t01, t02, t03⟩ := (HCW0.out.on hSw).all; obtain ⟨t10, t11, t12, t13⟩ := (HCW1.out.on hSw).all; go_simp; try with_reducible rfl)
      try simp only [Act.put, List.getElem_toArray, List.getElem_cons_zero, List.getElem_cons_succ, List.setIfInBounds_toArray, List.set_cons_zero, List.set_cons_succ]
      refine wpAnyH_take (i := 2) (v := ?_) rfl (by kernel_rfl) (by kernel_rfl) (by kernel_rfl) (fun _ _ _ h => h) (Or.inl ⟨by kernel_rfl, ?hy2⟩) (by assumption) ?_
      case hy2 => (intro w hSw; (try dsimp only at hSw); obtain ⟨t00, t01, t02, t03⟩ := (HCW0.out.on hSw).all; obtain ⟨t10, t11, t12, t13⟩ := (HCW1.out.on hSw).all; go_simp; try with_reducible rfl)
      try simp only [Act.put, List.getElem_toArray, List.getElem_cons_zero, List.getElem_cons_succ, List.setIfInBounds_toArray, List.set_cons_zero, List.set_cons_succ]
      refine wpAnyH_take (i := 3) (v := ?_) rfl (by kernel_rfl) (by kernel_rfl) (by kernel_rfl) (fun _ _ _ h => h) (Or.inl ⟨by kernel_rfl, ?hy3⟩) (by assumption) ?_
      case hy3 => (intro w hSw; (try dsimp only at hSw); obtain ⟨t00, t01, t02, t03⟩ := (HCW0.out.on hSw).all; obtain ⟨t10, t11, t12, t13⟩ := (HCW1.out.on hSw).all; go_simp; try with_reducible rfl)
      try simp only [Act.put, List.getElem_toArray, List.getElem_cons_zero, List.getElem_cons_succ, List.setIfInBounds_toArray, List.set_cons_zero, List.set_cons_succ]
      refine wpAnyH_take (i := 4) (v := ?_) rfl (by kernel_rfl) (by kernel_rfl) (by kernel_rfl) (fun _ _ _ h => h) (Or.inl ⟨by kernel_rfl, ?hy4⟩) (by assumption) ?_
      case hy4 => (intro w hSw; (try dsimp only at hSw); obtain ⟨t00, t01, t02, t03⟩ := (HCW0.out.on hSw).all; obtain ⟨t10, t11, t12, t13⟩ := (HCW1.out.on hSw).all; go_simp; try with_reducible rfl)
      try simp only [Act.put, List.getElem_toArray, List.getElem_cons_zero, List.getElem_cons_succ, List.setIfInBounds_toArray, List.set_cons_zero, List.set_cons_succ]
      refine wpAnyH_take (i := 5) (v := ?_) rfl (by kernel_rfl) (by kernel_rfl) (by kernel_rfl) (fun _ _ _ h => h) (Or.inl ⟨by kernel_rfl, ?hy5⟩) (by assumption) ?_
      case hy5 => (intro w hSw; (try dsimp only at hSw); obtain ⟨t00, t01, t02, t03⟩ := (HCW0.out.on hSw).all; obtain ⟨t10, t11, t12, t13⟩ := (HCW1.out.on hSw).all; go_simp; try with_reducible rfl)
      try simp only [Act.put, List.getElem_toArray, List.getElem_cons_zero, List.getElem_cons_succ, List.setIfInBounds_toArray, List.set_cons_zero, List.set_cons_succ]
      refine wpAnyH_take (i := 6) (v := ?_) rfl (by kernel_rfl) (by kernel_rfl) (by kernel_rfl) (fun _ _ _ h => h) (Or.inl ⟨by kernel_rfl, ?hy6⟩) (by assumption) ?_
      case hy6 => (intro w hSw; (try dsimp only at hSw); obtain ⟨t00, t01, t02, t03⟩ := (HCW0.out.on hSw).all; obtain ⟨t10, t11, t12, t13⟩ := (HCW1.out.on hSw).all; go_simp; try with_reducible rfl)
      try simp only [Act.put, List.getElem_toArray, List.getElem_cons_zero, List.getElem_cons_succ, List.setIfInBounds_toArray, List.set_cons_zero, List.set_cons_succ]
      refine wpAnyH_take (i := 7) (v := ?_) rfl (by kernel_rfl) (by kernel_rfl) (by kernel_rfl) (fun _ _ _ h => h) (Or.inl ⟨by kernel_rfl, ?hy7⟩) (by assumption) ?_
      case hy7 => (intro w hSw; (try dsimp only at hSw); obtain ⟨t00, t01, t02, t03⟩ := (HCW0.out.on hSw).all; obtain ⟨t10, t11, t12, t13⟩ := (HCW1.out.on hSw).all; go_simp; try with_reducible rfl)
      try simp only [Act.put, List.getElem_toArray, List.getElem_cons_zero, List.getElem_cons_succ, List.setIfInBounds_toArray, List.set_cons_zero, List.set_cons_succ]
      refine wpAnyH_take (i := 8) (v := ?_) rfl (by kernel_rfl) (by kernel_rfl) (by kernel_rfl) (fun _ _ _ h => h) (Or.inl ⟨by kernel_rfl, ?hy8⟩) (by assumption) ?_
      case hy8 => (intro w hSw; (try dsimp only at hSw); obtain ⟨t00, t01, t02, t03⟩ := (HCW0.out.on hSw).all; obtain ⟨t10, t11, t12, t13⟩ := (HCW1.out.on hSw).all; go_simp; try with_reducible rfl)
      try simp only [Act.put, List.getElem_toArray, List.getElem_cons_zero, List.getElem_cons_succ, List.setIfInBounds_toArray, List.set_cons_zero, List.set_cons_succ]
      refine wpAnyH_take (i := 9) (v := ?_) rfl (by kernel_rfl) (by kernel_rfl) (by kernel_rfl) (fun _ _ _ h => h) (Or.inl ⟨by kernel_rfl, ?hy9⟩) (by assumption) ?_
      case hy9 => (intro w hSw; (try dsimp only at hSw); obtain ⟨t00, t01, t02, t03⟩ := (HCW0.out.on hSw).all; obtain ⟨t10, t11, t12, t13⟩ := (HCW1.out.on hSw).all; go_simp; try with_reducible rfl)
      try simp only [Act.put, List.getElem_toArray, List.getElem_cons_zero, List.getElem_cons_succ, List.setIfInBounds_toArray, List.set_cons_zero, List.set_cons_succ]
      refine wpAnyH_take (i := 10) (v := ?_) rfl (by kernel_rfl) (by kernel_rfl) (by kernel_rfl) (fun _ _ _ h => h) (Or.inl ⟨by kernel_rfl, ?hy10⟩) (by assumption) ?_
      case hy10 => (intro w hSw; (try dsimp only at hSw); obtain ⟨t00, t01, t02, t03⟩ := (HCW0.out.on hSw).all; obtain ⟨t10, t11, t12, t13⟩ := (HCW1.out.on hSw).all; go_simp; try with_reducible rfl)
      try simp only [Act.put, List.getElem_toArray, List.getElem_cons_zero, List.getElem_cons_succ, List.setIfInBounds_toArray, List.set_cons_zero, List.set_cons_succ]
      refine wpAnyH_take (i := 11) (v := ?_) rfl (by kernel_rfl) (by kernel_rfl) (by kernel_rfl) (fun _ _ _ h => h) (Or.inl ⟨by kernel_rfl, ?hy11⟩) (by assumption) ?_
      case hy11 => (intro w hSw; (try dsimp only at hSw); obtain ⟨t00, t01, t02, t03⟩ := (HCW0.out.on hSw).all; obtain ⟨t10, t11, t12, t13⟩ := (HCW1.out.on hSw).all; go_simp; try with_reducible rfl)
      try simp only [Act.put, List.getElem_toArray, List.getElem_cons_zero, List.getElem_cons_succ, List.setIfInBounds_toArray, List.set_cons_zero, List.set_cons_succ]
      refine wpAnyH_take (i := 12) (v := ?_) rfl (by kernel_rfl) (by kernel_rfl) (by kernel_rfl) (fun _ _ _ h => h) (Or.inl ⟨by kernel_rfl, ?hy12⟩) (by assumption) ?_
      case hy12 => (intro w hSw; (try dsimp only at hSw); obtain ⟨t00, t01, t02, t03⟩ := (HCW0.out.on hSw).all; obtain ⟨t10, t11, t12, t13⟩ := (HCW1.out.on hSw).all; go_simp; try with_reducible rfl)
      try simp only [Act.put, List.getElem_toArray, List.getElem_cons_zero, List.getElem_cons_succ, List.setIfInBounds_toArray, List.set_cons_zero, List.set_cons_succ]
      refine wpAnyH_ready (rs := [13]) (by kernel_rfl) (by simp) ?_
      refine AllReadyH.cons rfl (fun K hK => ?_) AllReadyH.nil
      go_simp
      go_wp2_with fail
      refine (CR.out _ (H1.out.on (Below.on HM.out.fst.bel hHeld)) (H1'.out.on (Below.on HM.out.fst.bel hHeld)) (HRX.out.on (Below.on HM.out.fst.bel hHeld))).mono ?_
      rintro e u40 ⟨v40, rfl, h40, s40⟩
      have HO6 := hid (h40.base hHeld)
      have HS6 := hid s40
      replace hHeld := Below.on hHeld h40.bel
      refine hK.out _ _ hHeld (fun _ => ?_)
      clear hK K h40 s40
      refine wpAnyH_take (i := 14) (v := ?_) rfl (by kernel_rfl) (by kernel_rfl) (by kernel_rfl) (fun _ _ _ h => h) (Or.inl ⟨by kernel_rfl, ?hy14⟩) (by assumption) ?_
      case hy14 => (intro w hSw; (try dsimp only at hSw); obtain ⟨t00, t01, t02, t03⟩ := (HCW0.out.on hSw).all; obtain ⟨t10, t11, t12, t13⟩ := (HCW1.out.on hSw).all; go_simp; try with_reducible rfl)
      try simp only [Act.put, List.getElem_toArray, List.getElem_cons_zero, List.getElem_cons_succ, List.setIfInBounds_toArray, List.set_cons_zero, List.set_cons_succ]
      refine wpAnyH_done (by kernel_rfl) ?_ _
      have HM2 := hid (HM.out.on hHeld)
      have HBW := hid (Below.on HM.out.fst.bel hHeld)
      have HLT : Hid (∀ k, u9.ownBlock = some k → k < wr.heap.size) := fun k hk => (HM.out.fst.own.lt k hk).2
      have HO7 := hid (HO6.out.base HM.out.fst.bel)
      have HGE : Hid (∀ k, v40.ownBlock = some k → wr.heap.size ≤ k ∧ k < u40.heap.size) := fun k hk => HO6.out.own.lt k hk
      clear hHeld CR HCW0 HCW1 HM HO6
      obtain ⟨a10, c10, hv10, r10⟩ := rdc_of_owns HM2.out.snd.own (fun r hr => (HS.out r hr).1.ok)
      obtain ⟨a40, c40, hv40, r40⟩ := rdc_of_owns HO7.out.own (fun r hr => (HS6.out r hr).ok)
      have CA := hid (ralike_any a10 a40 last.length c10 R.length c40 last R u40 r10 r40 (fun x hx => (HS.out x hx).1))
      have H10 := hid r10
      clear r10 r40
      subst hv10
      subst hv40
      cases hal : alk last R
      · rw [hal] at CA
        have HN : Hid (mgo RR (L ++ last) R (ys.drop (i + 1)) = T) := by
          have := HST.out
          rw [if_neg (by rw [hal]; decide)] at this
          exact this
        go_wp2_with fail
        refine CA.out.mono ?_
        rintro e u41 ⟨rfl, q41, rfl⟩
        have hq41 := below_drewN (Below.refl u40.heap.size u40) q41
        have HM3 := hid (HM2.out.on hq41)
        have HO8 := hid (HO7.out.on hq41)
        have HSR := hid ((H10.out.on hq41).src (P := Tryz.prog) (t := 25) Tryz.underlying25)
        have hz41 : (u40.drewN q41).heap.size = u40.heap.size := rfl
        generalize u40.drewN q41 = u41 at HM3 HO8 HSR hz41 ⊢
        clear hq41 HM2 HO7 H10 CA
        have HFIN : Hid (∀ v' w', w'.ownsRow w1.heap.size 67 4 v' (L.length + last.length) (rccs L ++ rccs last) → u41.grownBy w' u9.ownBlock → (v'.ownBlock = u9.ownBlock ∨ v'.ownBlock = some u41.heap.size) → M1 w1 w' v' (.slice a40 R.length c40) (L ++ last) R) := fun v' w' o g hat => by
          refine ⟨HM3.out.fst.grown o g, ⟨HO8.out.own.kept g ?_, HM3.out.fst.bel.grown g HM3.out.fst.bel.size (fun k hk => (HM3.out.fst.own.lt k hk).1)⟩, fun k hk hk' => ?_⟩
          · cases hob : (Value.slice a40 R.length c40).ownBlock with
            | none => exact .inl rfl
            | some k =>
              refine .inr (fun e => ?_)
              have h1 := HLT.out k e.symm
              have h2 := (HGE.out k hob).1
              omega
          · have h2 := HGE.out k hk'
            rcases hat with e | e
            · have h1 := HLT.out k (by rw [← e]; exact hk)
              omega
            · rw [hk] at e
              have : k = u41.heap.size := Option.some.inj e
              omega
        go_wp2_with (at_builtin; refine wpList_append_own_at _ rfl (.tmp 70) (.tmp 71) 25 25 rfl w1.heap.size 67 i0 (.agg #[.int .i64 0, .int .i64 0, .int .i64 0, .int .i64 0]) 4 32 Tryz.underlying25 hi hz0 hz1 hz2 rfl _ _ _ rfl HM3.out.fst.own _ _ _ rfl HSR.out (by simp only [maxLen]; omega) (fits32 (by omega)) HM3.out.fst.bel.size ?_; intro v9 w9 o9 g9 t9; have H9 := hid (HFIN.out _ _ o9 g9 t9); clear o9 g9 t9 HFIN HSR)
        go_wp2
        go_roundw
        case rel => exact ⟨i + 1, L ++ last, R, by go_num, by omega, by rw [List.length_append]; omega, HP.out.1, HN.out, fun r hr => ⟨HS6.out r hr, fun z hz => by
          have := HP.out.2 r hr
          rw [HYI'.out] at hz
          cases hz
          omega⟩, H9.out⟩
        case measure => simp [numOf]; omega
      · rw [hal] at CA
        have HN : Hid (mgo RR L (grow (y' - y) last) (ys.drop (i + 1)) = T) := by
          have := HST.out
          rw [if_pos hal] at this
          exact this
        have hln : last ≠ [] := fun e => by rw [e] at hal; simp [alk] at hal
        obtain ⟨g, cg, hvg⟩ := HM2.out.snd.form hln
        have hag : a10 = some ⟨g, 0, none⟩ := by
          injection hvg
        clear hvg
        subst hag
        go_wp2_with fail
        refine CA.out.mono ?_
        rintro e u41 ⟨rfl, q41, rfl⟩
        have hq41 := below_drewN (Below.refl u40.heap.size u40) q41
        have HM3 := hid (HM2.out.on hq41)
        generalize u40.drewN q41 = u41 at HM3 ⊢
        clear hq41 HM2 HO7 H10 CA
        go_wp2
        go_loopw [13] (fun x wi => ∃ k : Nat, x = .int .i64 k ∧ k ≤ last.length ∧ M1 w1 wi u9 (.slice (some ⟨g, 0, none⟩) last.length c10) L (gk (y' - y) k last)) (fun x _ => last.length - (numOf x).toNat)
        case atStart => exact ⟨0, rfl, by omega, HM3.out⟩
        case round =>
          obtain ⟨k, rfl, hk, hM⟩ := hrel
          have HM4 := hid hM
          clear hM HM3
          have HGL := hid (gk_len (y' - y) k last)
          by_cases hgo2 : k < last.length
          · have e5 : decide ((k : Int) < last.length) = true := decide_eq_true (by omega)
            have e6 : (k : Int) < last.length := by omega
            obtain ⟨r, hr⟩ : ∃ r, last[k]? = some r := ⟨_, List.getElem?_eq_getElem hgo2⟩
            have HR := hid hr
            obtain ⟨⟨sx, sy, sw, sh2⟩, sb⟩ := HS.out r (List.mem_of_getElem? hr)
            have sb2 := sb y HYI.out
            obtain ⟨gl, gb, gel⟩ := HM4.out.snd.el HGL.out
            obtain ⟨gl3, d0, d1, d2, d3⟩ := gel k r (gk_at hr)
            have f11 : IntKind.i64.wrap (r.h + y') = r.h + y' := by rw [IntKind.wrap_i64]; omega
            have f12 : IntKind.i64.wrap (r.h + y' - y) = r.h + (y' - y) := by rw [IntKind.wrap_i64]; omega
            have fz2 : wr.drew.frozen? ⟨g, k * 4 + 3, none⟩ = false := HM4.out.snd.fz HGL.out _
            have hd3 : wr.drew.cell? ⟨g, k * 4 + 3, none⟩ = some (.int .i64 r.h) := d3
            have q0 := HC0.out.on HM4.out.fst.bel
            have q1 := HC1.out.on HM4.out.fst.bel
            have hSD : CI wr.drew g (k * 4 + 3) r.h ∧ CI wr.drew by_ (oy + i) y ∧ CI wr.drew by_ (oy + (i + 1)) y' := ⟨⟨gl3, d3⟩, ⟨q0.lt, q0.c⟩, ⟨q1.lt, q1.c⟩⟩
            have hby2 : by_ < w1.heap.size := HC0.out.lt
            have HM5 : Hid (M1 w1 (wr.setCell ⟨g, k * 4 + 3, none⟩ (.int .i64 (r.h + (y' - y)))).drew u9 (.slice (some ⟨g, 0, none⟩) last.length c10) L (gk (y' - y) (k + 1) last)) := by
              have h1 := HM4.out.snd.setH HGL.out (gk_at hr) (r.h + (y' - y))
              rw [gk_set hr] at h1
              refine M1.on ⟨HM4.out.fst.set (fun e => HM4.out.ne g e rfl) gb _, h1, HM4.out.ne⟩ (Below.refl _ _).drew
            have fz3 := HM4.out.snd.fz HGL.out
            have q0c := q0.c
            have q1c := q1.c
            have hne1 : ¬ g = by_ := by omega
            clear gel d0 d1 d2 q0 q1 hr sb hSD hd3 fz2
            go_upto_region 11 with fail
            go_region
            all_goals
              go_wp2
              go_roundw
              case rel => exact ⟨k + 1, by go_num, by omega, HM5.out⟩
              case measure => simp [numOf]; omega
          · have e5 : decide ((k : Int) < last.length) = false := decide_eq_false (by omega)
            obtain rfl : k = last.length := by omega
            have HM5 := hid HM4.out
            rw [gk_all] at HM5
            clear HM4
            go_wp2
            go_roundw
            case rel => exact ⟨i + 1, L, grow (y' - y) last, by go_num, by omega, by omega, by rw [grow, List.length_map]; omega, HN.out, fun r hr => by
              obtain ⟨q, hq, rfl⟩ := List.mem_map.1 hr
              obtain ⟨⟨sx, sy, sw, sh2⟩, sb⟩ := HS.out q hq
              have sb2 := sb y HYI.out
              refine ⟨⟨sx, sy, sw, by simp only; omega⟩, fun z hz => ?_⟩
              rw [HYI'.out] at hz
              cases hz
              simp only
              omega, HM5.out⟩
            case measure => simp [numOf]; omega
    · have e1 : decide ((i : Int) + 1 < ys.length) = false := decide_eq_false (by omega)
      have f10 : IntKind.i64.wrap ((i : Int) + 1) = (i : Int) + 1 := by rw [IntKind.wrap_i64]; omega
      have HE : Hid (L ++ last = T) := by
        have := HQ.out
        rcases Nat.lt_or_ge i ys.length with h | h
        · obtain ⟨z, hzi⟩ : ∃ z, ys[i]? = some z := ⟨_, List.getElem?_eq_getElem h⟩
          rw [drop_at hzi, List.drop_eq_nil_of_le (by omega), mgo] at this
          · exact this
          · intros; simp at *
        · rw [List.drop_eq_nil_of_le (by omega), mgo] at this
          · exact this
          · intros; simp at *
      obtain ⟨a10, c10, hv10, r10⟩ := rdc_of_owns HM.out.snd.own (fun r hr => (HS.out r hr).1.ok)
      subst hv10
      have HSR := hid (r10.src (P := Tryz.prog) (t := 25) Tryz.underlying25)
      have HFIN : Hid (∀ v' w', w'.ownsRow w1.heap.size 67 4 v' (L.length + last.length) (rccs L ++ rccs last) → wr.grownBy w' u9.ownBlock → OwC w w' v' T) := fun v' w' o g => by
        have := (HM.out.fst.grown o g).base HB1.out
        rw [HE.out] at this
        exact this
      have hsz := HM.out.fst.bel.size
      clear r10
      go_wp2_with (at_builtin; refine wpList_append_own_src _ rfl (.tmp 74) (.tmp 75) 25 25 rfl w1.heap.size 67 i0 (.agg #[.int .i64 0, .int .i64 0, .int .i64 0, .int .i64 0]) 4 32 Tryz.underlying25 hi hz0 hz1 hz2 rfl _ _ _ rfl HM.out.fst.own _ _ _ rfl HSR.out (by simp only [maxLen]; omega) (fits32 (by omega)) hsz ?_; intro v9 w9 o9 g9; have H9 := hid (HFIN.out _ _ o9 g9); clear o9 g9 HFIN HSR)
      go_wp2
      go_ret
      exact ⟨_, rfl, H9.out⟩
end Go.Proofs.YtlkodgmnhphfcaaGreatDoor

/- The document's Check, Make, Of; Rects, few, made. -/
namespace Go.Proofs.YtlkodgmnhphfcaaGreatDoor
open Go Go.RowKit

theorem fH0 : fH 0 = or := rfl
theorem fH1 : fH 1 = sub := rfl
theorem fH2 : fH 2 = and := rfl
theorem eqr_rgn {l : List Rc} (hk : ∀ r ∈ l, Ck r) : eqr l (mk or l []) = rgn l := by
  rw [Bool.eq_iff_iff, eqr_iff, rgn_iff, ← mk_reg hk]
  exact ⟨fun h => h.symm, fun h => h.symm⟩

set_option maxRecDepth 100000 in
set_option maxHeartbeats 1000000 in
theorem rregcheck_any (a : Option Addr) (n c : Nat) (l : List Rc) (w : World) (h : RdC w a n c l) (hn : n ≤ 4096) :
    Calls Tryz.prog 23 #[.slice a n c] w fun e w' => e = .returned (.bool (rgn l)) ∧ Below w.heap.size w w' := by
  have H := hid h
  have HL := hid h.len
  have hs := h.small
  clear h
  go_enter Tryz.func23, Tryz.ntmps23
  go_wp2
  go_loopw [3] (fun i wr => ∃ j : Nat, i = .int .i64 j ∧ j ≤ n ∧ (∀ k r, k < j → l[k]? = some r → Ck r) ∧ RowKit.Below w.heap.size w wr) (fun i _ => n - (numOf i).toNat)
  case atStart => exact ⟨0, rfl, by omega, fun k r hk => absurd hk (by omega), Below.refl _ _⟩
  case round =>
    obtain ⟨j, rfl, hj, hK, hb⟩ := hrel
    have HK := hid hK
    have HB := hid hb
    clear hK hb
    by_cases hgo : j < n
    · have e1 : decide ((j : Int) < n) = true := decide_eq_true (by omega)
      have e2 : (j : Int) < n := by omega
      obtain ⟨b, off, r, rfl, _, hr, ok, he⟩ := (H.out.on HB.out).el hgo
      obtain ⟨_, c0, c1, c2, c3⟩ := he
      have HR := hid hr
      have CC := hid (fun w => rcheck_any r w)
      clear hr ok
      cases hd : dck r
      · rw [hd] at CC
        have HN := hid (rgn_ck HR.out hd)
        go_wp2_with fail
        refine (CC.out _).mono ?_
        rintro e w2 ⟨rfl, hb2⟩
        have HB2 := hid (Below.on HB.out hb2)
        clear hb2
        go_wp2
        go_ret
        rw [HN.out]
        exact ⟨rfl, HB2.out⟩
      · rw [hd] at CC
        have HK2 : Hid (∀ k x, k < j + 1 → l[k]? = some x → Ck x) := fun k x hk hx => by
          rcases Nat.lt_or_ge k j with h | h
          · exact HK.out k x h hx
          · obtain rfl : k = j := by omega
            rw [HR.out] at hx
            cases hx
            exact dck_iff.1 hd
        go_wp2_with fail
        refine (CC.out _).mono ?_
        rintro e w2 ⟨rfl, hb2⟩
        have HB2 := hid (Below.on HB.out hb2)
        clear hb2
        go_wp2
        go_roundw
        case rel => exact ⟨j + 1, by go_num, by omega, HK2.out, HB2.out⟩
        case measure => simp [numOf]; omega
    · have e1 : decide ((j : Int) < n) = false := decide_eq_false (by omega)
      obtain rfl : j = n := by omega
      have HC2 : Hid (∀ x ∈ l, Ck x) := fun x hx => by
        obtain ⟨k, hk, e⟩ := List.mem_iff_getElem.1 hx
        exact HK.out k x (by rw [← HL.out]; exact hk) (by rw [List.getElem?_eq_getElem hk, e])
      have CM := hid (rmake1_any a none j c 0 0 l [] 0 wr (H.out.on HB.out) (RdC.nil _) HC2.out (by simp) (by omega))
      rw [fH0] at CM
      have HE := hid (eqr_rgn HC2.out)
      have HMO : Hid (∀ r ∈ mk or l [], r.Ok) := fun r hr => ((mk_all (f := or) rfl HC2.out (by simp)).1.ck r hr).ok
      go_wp2_with fail
      refine CM.out.mono ?_
      rintro e w2 ⟨v2, rfl, h2⟩
      obtain ⟨a2, c2, rfl, r2⟩ := rdc_of_owns h2.own HMO.out
      have CS := hid (rsame_any a a2 j c (mk or l []).length c2 l (mk or l []) w2 (H.out.on (Below.on HB.out h2.bel)) r2)
      rw [HE.out] at CS
      have HB2 := hid (Below.on HB.out h2.bel)
      clear h2 r2 CM
      go_wp2_with fail
      refine CS.out.mono ?_
      rintro e w3 ⟨rfl, q3, rfl⟩
      go_wp2
      go_ret
      exact ⟨rfl, below_drewN HB2.out _⟩



set_option maxRecDepth 100000 in
set_option maxHeartbeats 1000000 in
theorem rects_any (a : Option Addr) (n c : Nat) (l : List Rc) (w : World) (h : RdC w a n c l) (hn : n ≤ 1000000) : Calls Tryz.prog 14 #[.slice a n c] w (Ret w l) := by
  obtain ⟨i0, hi, hz0, hz1, hz2⟩ := info3 infoC
  have HSR := hid (h.src (P := Tryz.prog) (t := 25) Tryz.underlying25)
  have HL := hid h.len
  have HOK := hid h.ok
  have HFIN : Hid (∀ v' w', w'.ownsRow w.heap.size 67 4 v' (0 + n) ([] ++ rccs l) → w.grownBy w' (Value.slice none 0 0).ownBlock → Ret w l (.returned v') w') := fun v' w' o g => by
    rw [Nat.zero_add, List.nil_append, ← HL.out] at o
    exact OwC.ret ⟨o, (Below.refl _ _).grown g (Nat.le_refl _) (fun k hk => by cases hk)⟩ HOK.out
  clear h
  go_enter Tryz.func14, Tryz.ntmps14
  go_wp2_with (at_builtin; refine wpList_append_own_src _ rfl (.const (.slice none 0 0)) (.tmp 3) 25 25 rfl w.heap.size 67 i0 (.agg #[.int .i64 0, .int .i64 0, .int .i64 0, .int .i64 0]) 4 32 Tryz.underlying25 hi hz0 hz1 hz2 rfl (.slice none 0 0) 0 [] rfl (World.ownsRow_nil _ _ _ _) _ _ _ rfl HSR.out (by simp only [maxLen]; omega) (fits32 (by omega)) (Nat.le_refl _) ?_; intro v9 w9 o9 g9; have H9 := hid (HFIN.out _ _ o9 g9); clear o9 g9 HFIN HSR)
  go_wp2
  go_ret
  exact H9.out
end Go.Proofs.YtlkodgmnhphfcaaGreatDoor

/- few, made, awake. -/
namespace Go.Proofs.YtlkodgmnhphfcaaGreatDoor
open Go Go.RowKit

/-- A list by its places. -/
def gl (l : List Rc) (j : Nat) : Rc := (l[j]?).getD rz



theorem ex_union : unn or [⟨0, 0, 2, 2⟩] [⟨2, 0, 2, 2⟩] = [⟨0, 0, 4, 2⟩] := by
  have k1 : Ck ⟨0, 0, 2, 2⟩ := ⟨by decide, by decide, by decide, by decide, by decide, by decide⟩
  have k2 : Ck ⟨2, 0, 2, 2⟩ := ⟨by decide, by decide, by decide, by decide, by decide, by decide⟩
  have k3 : Ck ⟨0, 0, 4, 2⟩ := ⟨by decide, by decide, by decide, by decide, by decide, by decide⟩
  rw [unn_reg (reg_one k1) (reg_one k2)]
  obtain ⟨h1, h2, _⟩ := mk_all (f := or) rfl (reg_one k1).ck (reg_one k2).ck
  refine reg_eq h1 (reg_one k3) fun x y => ?_
  rw [h2, Bool.eq_iff_iff, Bool.or_eq_true, pt_iff, pt_iff, pt_iff]
  simp only [List.mem_singleton, exists_eq_left, has_iff]
  omega
theorem ex_rgn : rgn [⟨0, 0, 4, 2⟩] = true := rgn_iff.2 (reg_one ⟨by decide, by decide, by decide, by decide, by decide, by decide⟩)

end Go.Proofs.YtlkodgmnhphfcaaGreatDoor
