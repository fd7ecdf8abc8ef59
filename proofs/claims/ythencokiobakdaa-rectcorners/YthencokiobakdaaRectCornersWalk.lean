/- RectCorners: for every rectangle the call returns true; nothing that was there has turned. -/
import Derived.Test.YthencokiobakdaaRectK
namespace Go.Proofs.Ythencokiobakdaa.rectCorners
open Go Go.RowKit

set_option maxRecDepth 100000 in
set_option maxHeartbeats 1000000 in
theorem core (a : Rc) (ok : a.Ok) (w : World) : Calls Try.prog 6 #[.agg #[.int .i64 a.x, .int .i64 a.y, .int .i64 a.w, .int .i64 a.h]] w fun e w' => e = .returned (.bool true) ∧ Below w.heap.size w w' := by
  have CC := hid (fun w => check_any a ok w)
  rw [chk_dck ok] at CC
  have CD := hid (fun w => rcheck_any a w)
  cases hc : dck a
  · rw [hc] at CC CD
    clear ok
    go_enter Try.func6, Try.ntmps6
    go_wp2_with fail
    refine (CC.out _).mono ?_
    rintro e w1 ⟨rfl, hb1⟩
    obtain ⟨hA, hw⟩ := box1 a hb1
    obtain ⟨c0, c1, c2, c3⟩ := hA.all
    clear hb1 hA
    go_wp2_with fail
    refine (CD.out _).mono ?_
    rintro e w2 ⟨rfl, hb2⟩
    go_wp2_with fail
    refine (awake_any _).mono ?_
    rintro e w3 ⟨rfl, hb3⟩
    go_wp2
    go_ret
    exact ⟨rfl, Below.on (Below.on hw hb2) hb3⟩
  · rw [hc] at CC
    obtain ⟨k1, k2, k3, k4, k5, k6⟩ := dck_iff.1 hc
    have C1 := fun w => has_any a ok a.x a.y (by omega) (by omega) w
    have C2 := fun w => has_any a ok (a.x + a.w - 1) (a.y + a.h - 1) (by omega) (by omega) w
    have C3 := fun w => has_any a ok (a.x - 1) a.y (by omega) (by omega) w
    have C4 := fun w => has_any a ok (a.x + a.w) (a.y + a.h - 1) (by omega) (by omega) w
    have C5 := fun w => has_any a ok (a.x + a.w - 1) (a.y + a.h) (by omega) (by omega) w
    have C6 := fun w => has_any a ok a.x (a.y - 1) (by omega) (by omega) w
    rw [has_iff.2 (by omega)] at C1 C2
    rw [has_no (by omega)] at C3 C4 C5 C6
    have H1 := hid C1
    have H2 := hid C2
    have H3 := hid C3
    have H4 := hid C4
    have H5 := hid C5
    have H6 := hid C6
    clear C1 C2 C3 C4 C5 C6 ok hc CD
    go_enter Try.func6, Try.ntmps6
    go_wp2_with fail
    refine (CC.out _).mono ?_
    rintro e w1 ⟨rfl, hb1⟩
    obtain ⟨hA, hw⟩ := box1 a hb1
    obtain ⟨c00, c01, c02, c03⟩ := hA.all
    clear hb1
    go_upto_region 3 with fail
    go_quiet (fail)
    replace hw := below_drewN hw nq
    replace hA := hA.drewN nq
    go_wp2_with fail
    refine (H1.out _).mono ?_
    rintro e v1 ⟨rfl, hb⟩
    replace hw := Below.on hw hb
    replace hA := hA.on hb
    clear c00 c01 c02 c03
    obtain ⟨c00, c01, c02, c03⟩ := hA.all
    clear hb
    go_wp2_with fail
    refine (H2.out _).mono ?_
    rintro e v2 ⟨rfl, hb⟩
    replace hw := Below.on hw hb
    replace hA := hA.on hb
    clear c00 c01 c02 c03
    obtain ⟨c00, c01, c02, c03⟩ := hA.all
    clear hb
    go_wp2_with fail
    refine (H3.out _).mono ?_
    rintro e v3 ⟨rfl, hb⟩
    replace hw := Below.on hw hb
    replace hA := hA.on hb
    clear c00 c01 c02 c03
    obtain ⟨c00, c01, c02, c03⟩ := hA.all
    clear hb
    go_wp2_with fail
    refine (H4.out _).mono ?_
    rintro e v4 ⟨rfl, hb⟩
    replace hw := Below.on hw hb
    replace hA := hA.on hb
    clear c00 c01 c02 c03
    obtain ⟨c00, c01, c02, c03⟩ := hA.all
    clear hb
    go_wp2_with fail
    refine (H5.out _).mono ?_
    rintro e v5 ⟨rfl, hb⟩
    replace hw := Below.on hw hb
    replace hA := hA.on hb
    clear c00 c01 c02 c03
    obtain ⟨c00, c01, c02, c03⟩ := hA.all
    clear hb
    go_wp2_with fail
    refine (H6.out _).mono ?_
    rintro e v6 ⟨rfl, hb⟩
    replace hw := Below.on hw hb
    replace hA := hA.on hb
    clear c00 c01 c02 c03
    obtain ⟨c00, c01, c02, c03⟩ := hA.all
    clear hb
    go_wp2_with fail
    refine (awake_any _).mono ?_
    rintro e v7 ⟨rfl, hb⟩
    replace hw := Below.on hw hb
    replace hA := hA.on hb
    clear c00 c01 c02 c03
    obtain ⟨c00, c01, c02, c03⟩ := hA.all
    clear hb
    go_wp2
    go_ret
    exact ⟨rfl, hw⟩

theorem walk (x y z u : Int) (w : World) (h : ∀ k ∈ [x, y, z, u], (Lit.int .i64 k).wf = true) : Calls Try.prog 6 #[.agg #[.int .i64 x, .int .i64 y, .int .i64 z, .int .i64 u]] w fun e w' => e = .returned (.bool true) ∧ Below w.heap.size w w' :=
  core ⟨x, y, z, u⟩ (ok4 h) w
end Go.Proofs.Ythencokiobakdaa.rectCorners
