/- The document's edges. -/
import Derived.Test.YtlkodgmnhphfcaaRgfA
namespace Go.Proofs.Ytlkodgmnhphfcaa
open Go Go.RowKit

theorem xs_snoc {l : List Rc} {j : Nat} {r : Rc} (h : l[j]? = some r) : xsOf (l.take (j + 1)) = addE (addE (xsOf (l.take j)) r.x) (r.x + r.w) := by
  rw [List.take_add_one, h]
  simp [xsOf]
theorem ys_snoc {l : List Rc} {j : Nat} {r : Rc} (h : l[j]? = some r) : ysOf (l.take (j + 1)) = addE (addE (ysOf (l.take j)) r.y) (r.y + r.h) := by
  rw [List.take_add_one, h]
  simp [ysOf]

set_option maxRecDepth 100000 in
set_option maxHeartbeats 1000000 in
theorem redges_any (a a' : Option Addr) (n c n' c' : Nat) (l m : List Rc) (w : World) (h : RdC w a n c l) (h' : RdC w a' n' c' m) (hk : ∀ x ∈ l ++ m, Ck x) (hn : n + n' ≤ 4096) :
    Calls Try.prog 36 #[.slice a n c, .slice a' n' c'] w fun e w' => ∃ x y, e = .returned (.tuple #[x, y]) ∧ OwJ w w' x (xsOf (l ++ m)) ∧ OwJ w w' y (ysOf (l ++ m)) := by
  have HL := hid h.len
  have HL' := hid h'.len
  have hs := h.small
  have hs' := h'.small
  have H := hid h
  have H' := hid h'
  have HK := hid hk
  have es : IntKind.i64.wrap ((n : Int) + (n' : Int)) = (n : Int) + n' := by rw [IntKind.wrap_i64]; omega
  clear h h' hk
  go_enter Try.func36, Try.ntmps36
  go_wp2
  go_loopw [6, 7, 8] (fun s6 s7 s8 wr => ∃ j : Nat, s8 = .int .i64 j ∧ j ≤ n + n' ∧ OwJ w wr s6 (xsOf ((l ++ m).take j)) ∧ OwJ w wr s7 (ysOf ((l ++ m).take j))) (fun _ _ s8 _ => n + n' - (numOf s8).toNat)
  case atStart => exact ⟨0, rfl, by omega, ⟨World.ownsRow_nil _ _ _ _, Below.refl _ _⟩, ⟨World.ownsRow_nil _ _ _ _, Below.refl _ _⟩⟩
  case round =>
    obtain ⟨j, rfl, hj, hX, hY⟩ := hrel
    have HX := hid hX
    have HY := hid hY
    clear hX hY
    by_cases hgo : j < n + n'
    · have e1 : decide ((j : Int) < (n : Int) + n') = true := decide_eq_true (by omega)
      obtain ⟨r, hr⟩ : ∃ r, (l ++ m)[j]? = some r := ⟨_, List.getElem?_eq_getElem (by rw [List.length_append, HL.out, HL'.out]; exact hgo)⟩
      have HR := hid hr
      have HKR := hid (HK.out r (List.mem_of_getElem? hr))
      have HBX : Hid (Bx (wr.alloc (ob r)) wr.heap.size r ∧ RowKit.Below wr.heap.size wr (wr.alloc (ob r))) := ⟨bx_new wr r, below_new wr _⟩
      rw [ob] at HBX
      clear hr
      go_upto_if 23 with fail
      go_cut [] from 10 to 54 (fun wx => wx = wr.alloc (.cells #[.int .i64 r.x, .int .i64 r.y, .int .i64 r.w, .int .i64 r.h] 36))
      case first =>
        by_cases hjn : j < n
        · have e2 : decide ((j : Int) < n) = true := decide_eq_true (by omega)
          have e3 : (j : Int) < n := by omega
          obtain ⟨b, off, s, rfl, _, hsj, _, he⟩ := (H.out.on HX.out.bel).el hjn
          have hrs : s = r := by
            have := HR.out
            rw [List.getElem?_append_left (by rw [HL.out]; exact hjn), hsj] at this
            exact Option.some.inj this
          subst hrs
          obtain ⟨hlt, c0, c1, c2, c3⟩ := he
          have hne : ¬ wr.heap.size = b := by omega
          clear hsj HBX
          go_wp2_with fail
          go_meet
          rfl
        · have e2 : decide ((j : Int) < n) = false := decide_eq_false (by omega)
          obtain ⟨k, hk⟩ : ∃ k, j = n + k := ⟨j - n, by omega⟩
          subst hk
          have hkn : k < n' := by omega
          have e3 : (k : Int) < n' := by omega
          have e5 : ¬ (n + k < n) := by omega
          have e4 : IntKind.i64.wrap (((n + k : Nat) : Int) - n) = k := by rw [IntKind.wrap_i64]; omega
          obtain ⟨b, off, s, rfl, _, hsj, _, he⟩ := (H'.out.on HX.out.bel).el hkn
          have hrs : s = r := by
            have := HR.out
            rw [List.getElem?_append_right (by rw [HL.out]; omega), HL.out, Nat.add_sub_cancel_left, hsj] at this
            exact Option.some.inj this
          subst hrs
          obtain ⟨hlt, c0, c1, c2, c3⟩ := he
          have hne : ¬ wr.heap.size = b := by omega
          clear hsj HBX
          go_wp2_with fail
          go_meet
          rfl
      case rest =>
        subst hcut
        have HX2 := hid (HX.out.on HBX.out.2)
        have HY2 := hid (HY.out.on HBX.out.2)
        have HBX2 := hid HBX.out.1
        have HSX := hid (xs_snoc HR.out)
        have HSY := hid (ys_snoc HR.out)
        have hlx : (xsOf ((l ++ m).take j)).length ≤ 8192 := by
          have := xs_length ((l ++ m).take j)
          rw [List.length_take] at this
          omega
        have hly : (ysOf ((l ++ m).take j)).length ≤ 8192 := by
          have := ys_length ((l ++ m).take j)
          rw [List.length_take] at this
          omega
        obtain ⟨P, hP⟩ : ∃ P, P = wr.heap.size := ⟨_, rfl⟩
        rw [← hP] at HBX2 ⊢
        clear HX HY HBX hP
        generalize wr.alloc (.cells #[.int .i64 r.x, .int .i64 r.y, .int .i64 r.w, .int .i64 r.h] 36) = u0 at HX2 HY2 HBX2 ⊢
        obtain ⟨k1, k2, k3, k4, k5, k6⟩ := HKR.out
        have f1 : IntKind.i64.wrap (r.x + r.w) = r.x + r.w := by rw [IntKind.wrap_i64]; omega
        have f2 : IntKind.i64.wrap (r.y + r.h) = r.y + r.h := by rw [IntKind.wrap_i64]; omega
        generalize xsOf ((l ++ m).take j) = X at HX2 HSX hlx
        generalize ysOf ((l ++ m).take j) = Y at HY2 HSY hly
        obtain ⟨ax, cx, hvx, rx⟩ := rdj_of_owns HX2.out.own
        obtain ⟨ay, cy, hvy, ry⟩ := rdj_of_owns HY2.out.own
        subst hvx
        subst hvy
        have HRX := hid rx
        have HRY := hid ry
        clear rx ry
        have hlx2 := addE_length (l := X) (v := r.x)
        have hly2 := addE_length (l := Y) (v := r.y)
        go_upto_region 9 with fail
        refine wp_region_held_drew (S := fun x => Below u0.heap.size u0 x) (by kernel_rfl) (Below.refl _ _).drew (fun hHeld => ?_)
        have hHeld : Below u0.heap.size u0 u0.drew := hHeld
        refine wpAnyH_take (i := 0) (v := ?_) rfl (by kernel_rfl) (by kernel_rfl) (by kernel_rfl) (fun _ _ _ h => h) (Or.inl ⟨by kernel_rfl, ?hy0⟩) (by assumption) ?_
        case hy0 => (intro w hSw; (try dsimp only at hSw); obtain ⟨t00, t01, t02, t03⟩ := (HBX2.out.on hSw).all; go_simp; try with_reducible rfl)
        try simp only [Act.put, List.getElem_toArray, List.getElem_cons_zero, List.setIfInBounds_toArray, List.set_cons_zero, List.set_cons_succ]
        refine wpAnyH_take (i := 1) (v := ?_) rfl (by kernel_rfl) (by kernel_rfl) (by kernel_rfl) (fun _ _ _ h => h) (Or.inl ⟨by kernel_rfl, ?hy1⟩) (by assumption) ?_
        case hy1 => (intro w hSw; (try dsimp only at hSw); obtain ⟨t00, t01, t02, t03⟩ := (HBX2.out.on hSw).all; go_simp; try with_reducible rfl)
        try simp only [Act.put, List.getElem_toArray, List.getElem_cons_zero, List.getElem_cons_succ, List.setIfInBounds_toArray, List.set_cons_zero, List.set_cons_succ]
        refine wpAnyH_take (i := 2) (v := ?_) rfl (by kernel_rfl) (by kernel_rfl) (by kernel_rfl) (fun _ _ _ h => h) (Or.inl ⟨by kernel_rfl, ?hy2⟩) (by assumption) ?_
        case hy2 => (intro w hSw; (try dsimp only at hSw); obtain ⟨t00, t01, t02, t03⟩ := (HBX2.out.on hSw).all; go_simp; try with_reducible rfl)
        try simp only [Act.put, List.getElem_toArray, List.getElem_cons_zero, List.getElem_cons_succ, List.setIfInBounds_toArray, List.set_cons_zero, List.set_cons_succ]
        refine wpAnyH_take (i := 4) (v := ?_) rfl (by kernel_rfl) (by kernel_rfl) (by kernel_rfl) (fun _ _ _ h => h) (Or.inl ⟨by kernel_rfl, ?hy4⟩) (by assumption) ?_
        case hy4 => (intro w hSw; (try dsimp only at hSw); obtain ⟨t00, t01, t02, t03⟩ := (HBX2.out.on hSw).all; go_simp; try with_reducible rfl)
        try simp only [Act.put, List.getElem_toArray, List.getElem_cons_zero, List.getElem_cons_succ, List.setIfInBounds_toArray, List.set_cons_zero, List.set_cons_succ]
        refine wpAnyH_take (i := 5) (v := ?_) rfl (by kernel_rfl) (by kernel_rfl) (by kernel_rfl) (fun _ _ _ h => h) (Or.inl ⟨by kernel_rfl, ?hy5⟩) (by assumption) ?_
        case hy5 => (intro w hSw; (try dsimp only at hSw); obtain ⟨t00, t01, t02, t03⟩ := (HBX2.out.on hSw).all; go_simp; try with_reducible rfl)
        try simp only [Act.put, List.getElem_toArray, List.getElem_cons_zero, List.getElem_cons_succ, List.setIfInBounds_toArray, List.set_cons_zero, List.set_cons_succ]
        refine wpAnyH_take (i := 6) (v := ?_) rfl (by kernel_rfl) (by kernel_rfl) (by kernel_rfl) (fun _ _ _ h => h) (Or.inl ⟨by kernel_rfl, ?hy6⟩) (by assumption) ?_
        case hy6 => (intro w hSw; (try dsimp only at hSw); obtain ⟨t00, t01, t02, t03⟩ := (HBX2.out.on hSw).all; go_simp; try with_reducible rfl)
        try simp only [Act.put, List.getElem_toArray, List.getElem_cons_zero, List.getElem_cons_succ, List.setIfInBounds_toArray, List.set_cons_zero, List.set_cons_succ]
        refine wpAnyH_take (i := 7) (v := ?_) rfl (by kernel_rfl) (by kernel_rfl) (by kernel_rfl) (fun _ _ _ h => h) (Or.inl ⟨by kernel_rfl, ?hy7⟩) (by assumption) ?_
        case hy7 => (intro w hSw; (try dsimp only at hSw); obtain ⟨t00, t01, t02, t03⟩ := (HBX2.out.on hSw).all; go_simp; try with_reducible rfl)
        try simp only [Act.put, List.getElem_toArray, List.getElem_cons_zero, List.getElem_cons_succ, List.setIfInBounds_toArray, List.set_cons_zero, List.set_cons_succ]
        refine wpAnyH_take (i := 8) (v := ?_) rfl (by kernel_rfl) (by kernel_rfl) (by kernel_rfl) (fun _ _ _ h => h) (Or.inl ⟨by kernel_rfl, ?hy8⟩) (by assumption) ?_
        case hy8 => (intro w hSw; (try dsimp only at hSw); obtain ⟨t00, t01, t02, t03⟩ := (HBX2.out.on hSw).all; go_simp; try with_reducible rfl)
        try simp only [Act.put, List.getElem_toArray, List.getElem_cons_zero, List.getElem_cons_succ, List.setIfInBounds_toArray, List.set_cons_zero, List.set_cons_succ]
        refine wpAnyH_ready (rs := [3]) (by kernel_rfl) (by simp) ?_
        refine AllReadyH.cons rfl (fun K hK => ?_) AllReadyH.nil
        go_simp
        go_wp2_with fail
        refine (radd_any ax X.length cx X r.x _ (HRX.out.on hHeld) (by omega)).mono ?_
        rintro e u101 ⟨v101, rfl, h101⟩
        obtain ⟨a101, c101, rfl, r101⟩ := rdj_of_owns h101.own
        have H101 := hid r101
        replace hHeld := Below.on hHeld h101.bel
        refine hK.out _ _ hHeld (fun _ => ?_)
        clear hK K h101 r101
        refine wpAnyH_ready (rs := [9]) (by kernel_rfl) (by simp) ?_
        refine AllReadyH.cons rfl (fun K hK => ?_) AllReadyH.nil
        go_simp
        go_wp2_with fail
        refine (radd_any a101 (addE X r.x).length c101 (addE X r.x) (r.x + r.w) _ H101.out (by omega)).mono ?_
        rintro e u102 ⟨v102, rfl, h102⟩
        have HX3 := hid (h102.base (Below.on HX2.out.bel hHeld))
        replace hHeld := Below.on hHeld h102.bel
        refine hK.out _ _ hHeld (fun _ => ?_)
        clear hK K h102
        refine wpAnyH_take (i := 10) (v := ?_) rfl (by kernel_rfl) (by kernel_rfl) (by kernel_rfl) (fun _ _ _ h => h) (Or.inl ⟨by kernel_rfl, ?hy10⟩) (by assumption) ?_
        case hy10 => (intro w hSw; (try dsimp only at hSw); obtain ⟨t00, t01, t02, t03⟩ := (HBX2.out.on hSw).all; go_simp; try with_reducible rfl)
        try simp only [Act.put, List.getElem_toArray, List.getElem_cons_zero, List.getElem_cons_succ, List.setIfInBounds_toArray, List.set_cons_zero, List.set_cons_succ]
        refine wpAnyH_done (by kernel_rfl) ?_ _
        have HBX3 := hid (HBX2.out.on hHeld)
        have HRY3 := hid (HRY.out.on hHeld)
        have HB3 := hid hHeld
        clear hHeld HBX2 HRX H101 HX2
        go_upto_region 10 with fail
        refine wp_region_held_drew (S := fun x => Below u102.heap.size u102 x) (by kernel_rfl) (Below.refl _ _).drew (fun hHeld => ?_)
        have hHeld : Below u102.heap.size u102 u102.drew := hHeld
        refine wpAnyH_take (i := 0) (v := ?_) rfl (by kernel_rfl) (by kernel_rfl) (by kernel_rfl) (fun _ _ _ h => h) (Or.inl ⟨by kernel_rfl, ?hy0⟩) (by assumption) ?_
        case hy0 => (intro w hSw; (try dsimp only at hSw); obtain ⟨t00, t01, t02, t03⟩ := (HBX3.out.on hSw).all; go_simp; try with_reducible rfl)
        try simp only [Act.put, List.getElem_toArray, List.getElem_cons_zero, List.setIfInBounds_toArray, List.set_cons_zero, List.set_cons_succ]
        refine wpAnyH_take (i := 1) (v := ?_) rfl (by kernel_rfl) (by kernel_rfl) (by kernel_rfl) (fun _ _ _ h => h) (Or.inl ⟨by kernel_rfl, ?hy1⟩) (by assumption) ?_
        case hy1 => (intro w hSw; (try dsimp only at hSw); obtain ⟨t00, t01, t02, t03⟩ := (HBX3.out.on hSw).all; go_simp; try with_reducible rfl)
        try simp only [Act.put, List.getElem_toArray, List.getElem_cons_zero, List.getElem_cons_succ, List.setIfInBounds_toArray, List.set_cons_zero, List.set_cons_succ]
        refine wpAnyH_take (i := 2) (v := ?_) rfl (by kernel_rfl) (by kernel_rfl) (by kernel_rfl) (fun _ _ _ h => h) (Or.inl ⟨by kernel_rfl, ?hy2⟩) (by assumption) ?_
        case hy2 => (intro w hSw; (try dsimp only at hSw); obtain ⟨t00, t01, t02, t03⟩ := (HBX3.out.on hSw).all; go_simp; try with_reducible rfl)
        try simp only [Act.put, List.getElem_toArray, List.getElem_cons_zero, List.getElem_cons_succ, List.setIfInBounds_toArray, List.set_cons_zero, List.set_cons_succ]
        refine wpAnyH_take (i := 4) (v := ?_) rfl (by kernel_rfl) (by kernel_rfl) (by kernel_rfl) (fun _ _ _ h => h) (Or.inl ⟨by kernel_rfl, ?hy4⟩) (by assumption) ?_
        case hy4 => (intro w hSw; (try dsimp only at hSw); obtain ⟨t00, t01, t02, t03⟩ := (HBX3.out.on hSw).all; go_simp; try with_reducible rfl)
        try simp only [Act.put, List.getElem_toArray, List.getElem_cons_zero, List.getElem_cons_succ, List.setIfInBounds_toArray, List.set_cons_zero, List.set_cons_succ]
        refine wpAnyH_take (i := 5) (v := ?_) rfl (by kernel_rfl) (by kernel_rfl) (by kernel_rfl) (fun _ _ _ h => h) (Or.inl ⟨by kernel_rfl, ?hy5⟩) (by assumption) ?_
        case hy5 => (intro w hSw; (try dsimp only at hSw); obtain ⟨t00, t01, t02, t03⟩ := (HBX3.out.on hSw).all; go_simp; try with_reducible rfl)
        try simp only [Act.put, List.getElem_toArray, List.getElem_cons_zero, List.getElem_cons_succ, List.setIfInBounds_toArray, List.set_cons_zero, List.set_cons_succ]
        refine wpAnyH_take (i := 6) (v := ?_) rfl (by kernel_rfl) (by kernel_rfl) (by kernel_rfl) (fun _ _ _ h => h) (Or.inl ⟨by kernel_rfl, ?hy6⟩) (by assumption) ?_
        case hy6 => (intro w hSw; (try dsimp only at hSw); obtain ⟨t00, t01, t02, t03⟩ := (HBX3.out.on hSw).all; go_simp; try with_reducible rfl)
        try simp only [Act.put, List.getElem_toArray, List.getElem_cons_zero, List.getElem_cons_succ, List.setIfInBounds_toArray, List.set_cons_zero, List.set_cons_succ]
        refine wpAnyH_take (i := 7) (v := ?_) rfl (by kernel_rfl) (by kernel_rfl) (by kernel_rfl) (fun _ _ _ h => h) (Or.inl ⟨by kernel_rfl, ?hy7⟩) (by assumption) ?_
        case hy7 => (intro w hSw; (try dsimp only at hSw); obtain ⟨t00, t01, t02, t03⟩ := (HBX3.out.on hSw).all; go_simp; try with_reducible rfl)
        try simp only [Act.put, List.getElem_toArray, List.getElem_cons_zero, List.getElem_cons_succ, List.setIfInBounds_toArray, List.set_cons_zero, List.set_cons_succ]
        refine wpAnyH_take (i := 8) (v := ?_) rfl (by kernel_rfl) (by kernel_rfl) (by kernel_rfl) (fun _ _ _ h => h) (Or.inl ⟨by kernel_rfl, ?hy8⟩) (by assumption) ?_
        case hy8 => (intro w hSw; (try dsimp only at hSw); obtain ⟨t00, t01, t02, t03⟩ := (HBX3.out.on hSw).all; go_simp; try with_reducible rfl)
        try simp only [Act.put, List.getElem_toArray, List.getElem_cons_zero, List.getElem_cons_succ, List.setIfInBounds_toArray, List.set_cons_zero, List.set_cons_succ]
        refine wpAnyH_ready (rs := [3]) (by kernel_rfl) (by simp) ?_
        refine AllReadyH.cons rfl (fun K hK => ?_) AllReadyH.nil
        go_simp
        go_wp2_with fail
        refine (radd_any ay Y.length cy Y r.y _ (HRY3.out.on hHeld) (by omega)).mono ?_
        rintro e u103 ⟨v103, rfl, h103⟩
        obtain ⟨a103, c103, rfl, r103⟩ := rdj_of_owns h103.own
        have H103 := hid r103
        replace hHeld := Below.on hHeld h103.bel
        refine hK.out _ _ hHeld (fun _ => ?_)
        clear hK K h103 r103
        refine wpAnyH_ready (rs := [9]) (by kernel_rfl) (by simp) ?_
        refine AllReadyH.cons rfl (fun K hK => ?_) AllReadyH.nil
        go_simp
        go_wp2_with fail
        refine (radd_any a103 (addE Y r.y).length c103 (addE Y r.y) (r.y + r.h) _ H103.out (by omega)).mono ?_
        rintro e u104 ⟨v104, rfl, h104⟩
        have HY3 := hid (h104.base (Below.on HY2.out.bel (Below.on HB3.out hHeld)))
        replace hHeld := Below.on hHeld h104.bel
        refine hK.out _ _ hHeld (fun _ => ?_)
        clear hK K h104
        refine wpAnyH_take (i := 10) (v := ?_) rfl (by kernel_rfl) (by kernel_rfl) (by kernel_rfl) (fun _ _ _ h => h) (Or.inl ⟨by kernel_rfl, ?hy10⟩) (by assumption) ?_
        case hy10 => (intro w hSw; (try dsimp only at hSw); obtain ⟨t00, t01, t02, t03⟩ := (HBX3.out.on hSw).all; go_simp; try with_reducible rfl)
        try simp only [Act.put, List.getElem_toArray, List.getElem_cons_zero, List.getElem_cons_succ, List.setIfInBounds_toArray, List.set_cons_zero, List.set_cons_succ]
        refine wpAnyH_done (by kernel_rfl) ?_ _
        have HX4 := hid (HX3.out.on hHeld)
        clear hHeld HX3
        go_wp2
        go_roundw
        case rel => exact ⟨j + 1, by go_num, by omega, by rw [HSX.out]; exact HX4.out, by rw [HSY.out]; exact HY3.out⟩
        case measure => simp [numOf]; omega
    · have e1 : decide ((j : Int) < (n : Int) + n') = false := decide_eq_false (by omega)
      have HE : Hid ((l ++ m).take j = l ++ m) := List.take_of_length_le (by rw [List.length_append, HL.out, HL'.out]; omega)
      rw [HE.out] at HX HY
      go_wp2
      refine bodyPost_ret (v := .tuple #[u6, u7]) ?_ rfl ⟨_, _, rfl, HX.out, HY.out⟩
      simp [results, Try.results36, go_sem]
end Go.Proofs.Ytlkodgmnhphfcaa
