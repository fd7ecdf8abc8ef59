/- Colours: the document's own answers. -/
import Derived.Test.YtldnggokkkhihaaDoorPixB
namespace Go.Proofs.YtldnggokkkhihaaDoor
open Go Go.RowKit

theorem and8 {x : Int} (h : 0 ≤ x ∧ x < 4294967296) : bits .and .u32 x 255 = x % 256 :=
  bits_mask .u32 32 (by decide) wraps_u32 8 (by decide) x h.1 h.2
theorem and24 {x : Int} (h : 0 ≤ x ∧ x < 4294967296) : bits .and .u32 x 16777215 = x % 16777216 :=
  bits_mask .u32 32 (by decide) wraps_u32 24 (by decide) x h.1 h.2

theorem prcut_any (n : Int) (_hn : -9223372036854775808 ≤ n ∧ n ≤ 9223372036854775807) (w : World) :
    Calls Tryd.prog 50 #[.int .i64 n] w fun e w' => e = .returned (.int .i64 (ct n)) ∧ w' = w := by
  go_enter Tryd.func50, Tryd.ntmps50
  go_wp2
  all_goals
    go_ret
    exact ⟨ret_i (by unfold ct; omega), rfl⟩


theorem rscale_any (x y : Int) (hx : -9223372036854775808 ≤ x ∧ x ≤ 9223372036854775807) (hy : -9223372036854775808 ≤ y ∧ y ≤ 9223372036854775807) (w : World) :
    Calls Tryd.prog 38 #[.int .i64 x, .int .i64 y] w fun e w' => e = .returned (.int .i64 (scl x y)) ∧ w' = w := by
  have b1 := ct_bd x
  have b2 := ct_bd y
  have b3 := prod_bd b1 b2
  have HJ : Hid (scl x y = (ct x * ct y + 127) / 255) := rfl
  go_enter Tryd.func38, Tryd.ntmps38
  go_wp2_with (go_at_call 50; refine (prcut_any _ (by assumption) _).mono ?_; rintro e w' ⟨rfl, rfl⟩)
  go_ret
  exact ⟨ret_i HJ.out.symm, rfl⟩

theorem rpart0 (u : Int) (hu : Col u) (w : World) :
    Calls Tryd.prog 37 #[.int .u32 u, .int .i64 0] w fun e w' => e = .returned (.int .i64 (pt0 u)) ∧ w' = w := by
  obtain ⟨h0, h1⟩ := hu
  have b1 := pt0_bd u
  have hp : bits .and .u32 u 255 = pt0 u := and8 (by omega)
  go_enter Tryd.func37, Tryd.ntmps37
  go_wp2
  go_ret
  exact ⟨rfl, rfl⟩
theorem rpart1 (u : Int) (hu : Col u) (w : World) :
    Calls Tryd.prog 37 #[.int .u32 u, .int .i64 1] w fun e w' => e = .returned (.int .i64 (pt1 u)) ∧ w' = w := by
  obtain ⟨h0, h1⟩ := hu
  have b1 := pt1_bd u
  have hp : bits .and .u32 (u / 256) 255 = pt1 u := and8 (by omega)
  go_enter Tryd.func37, Tryd.ntmps37
  go_wp2
  go_ret
  exact ⟨rfl, rfl⟩
theorem rpart2 (u : Int) (hu : Col u) (w : World) :
    Calls Tryd.prog 37 #[.int .u32 u, .int .i64 2] w fun e w' => e = .returned (.int .i64 (pt2 u)) ∧ w' = w := by
  obtain ⟨h0, h1⟩ := hu
  have b1 := pt2_bd u
  have hp : bits .and .u32 (u / 65536) 255 = pt2 u := and8 (by omega)
  go_enter Tryd.func37, Tryd.ntmps37
  go_wp2
  go_ret
  exact ⟨rfl, rfl⟩
theorem rpart3 (u : Int) (hu : Col u) (w : World) :
    Calls Tryd.prog 37 #[.int .u32 u, .int .i64 3] w fun e w' => e = .returned (.int .i64 (pt3 u)) ∧ w' = w := by
  obtain ⟨h0, h1⟩ := hu
  have b1 := pt3_bd u
  have hp : bits .and .u32 (u / 16777216) 255 = pt3 u := and8 (by omega)
  go_enter Tryd.func37, Tryd.ntmps37
  go_wp2
  go_ret
  exact ⟨rfl, rfl⟩

set_option maxRecDepth 100000 in
set_option maxHeartbeats 2000000 in
theorem rover_any (u o : Int) (hu : Col u) (ho : Col o) (w : World) :
    Calls Tryd.prog 19 #[.int .u32 u, .int .u32 o] w fun e w' => e = .returned (.int .u32 (ovr u o)) ∧ w' = w := by
  have a0 := pt0_bd u
  have a1 := pt1_bd u
  have a2 := pt2_bd u
  have a3 := pt3_bd u
  have b0 := pt0_bd o
  have b1 := pt1_bd o
  have b2 := pt2_bd o
  have b3 := pt3_bd o
  have c0 := scl_bd (pt0 u) (255 - pt3 o)
  obtain ⟨m0, n0⟩ : ∃ m : Int, m = min (pt0 o + scl (pt0 u) (255 - pt3 o)) 255 := ⟨_, rfl⟩
  have d0 : 0 ≤ m0 ∧ m0 ≤ 255 := by omega
  have q0 : Hid (ct (pt0 o + scl (pt0 u) (255 - pt3 o)) = m0) := by simp only [Hid]; unfold ct; omega
  have n0 : Hid (min (pt0 o + scl (pt0 u) (255 - pt3 o)) 255 = m0) := n0.symm
  have c1 := scl_bd (pt1 u) (255 - pt3 o)
  obtain ⟨m1, n1⟩ : ∃ m : Int, m = min (pt1 o + scl (pt1 u) (255 - pt3 o)) 255 := ⟨_, rfl⟩
  have d1 : 0 ≤ m1 ∧ m1 ≤ 255 := by omega
  have q1 : Hid (ct (pt1 o + scl (pt1 u) (255 - pt3 o)) = m1) := by simp only [Hid]; unfold ct; omega
  have n1 : Hid (min (pt1 o + scl (pt1 u) (255 - pt3 o)) 255 = m1) := n1.symm
  have c2 := scl_bd (pt2 u) (255 - pt3 o)
  obtain ⟨m2, n2⟩ : ∃ m : Int, m = min (pt2 o + scl (pt2 u) (255 - pt3 o)) 255 := ⟨_, rfl⟩
  have d2 : 0 ≤ m2 ∧ m2 ≤ 255 := by omega
  have q2 : Hid (ct (pt2 o + scl (pt2 u) (255 - pt3 o)) = m2) := by simp only [Hid]; unfold ct; omega
  have n2 : Hid (min (pt2 o + scl (pt2 u) (255 - pt3 o)) 255 = m2) := n2.symm
  have c3 := scl_bd (pt3 u) (255 - pt3 o)
  obtain ⟨m3, n3⟩ : ∃ m : Int, m = min (pt3 o + scl (pt3 u) (255 - pt3 o)) 255 := ⟨_, rfl⟩
  have d3 : 0 ≤ m3 ∧ m3 ≤ 255 := by omega
  have q3 : Hid (ct (pt3 o + scl (pt3 u) (255 - pt3 o)) = m3) := by simp only [Hid]; unfold ct; omega
  have n3 : Hid (min (pt3 o + scl (pt3 u) (255 - pt3 o)) 255 = m3) := n3.symm
  have HJ : Hid (ovr u o = ((m3 * 256 + m2) * 256 + m1) * 256 + m0) := by simp only [Hid]; unfold ovr jn; rw [q0.out, q1.out, q2.out, q3.out]
  clear q0 q1 q2 q3
  go_enter Tryd.func19, Tryd.ntmps19
  go_wp2
  refine wp_loop_rounds 5 ?_
  rw [rounds_succ]
  go_wp2_with fail
  refine (rpart0 o ho _).mono ?_
  rintro e w' ⟨rfl, rfl⟩
  go_wp2_with fail
  refine (rpart0 u hu _).mono ?_
  rintro e w' ⟨rfl, rfl⟩
  go_wp2_with fail
  refine (rpart3 o ho _).mono ?_
  rintro e w' ⟨rfl, rfl⟩
  go_wp2_with fail
  refine (rscale_any (pt0 u) (255 - pt3 o) (by omega) (by omega) _).mono ?_
  rintro e w' ⟨rfl, rfl⟩
  go_wp2
  rw [n0.out]
  clear n0
  rw [rounds_succ]
  go_wp2_with fail
  refine (rpart1 o ho _).mono ?_
  rintro e w' ⟨rfl, rfl⟩
  go_wp2_with fail
  refine (rpart1 u hu _).mono ?_
  rintro e w' ⟨rfl, rfl⟩
  go_wp2_with fail
  refine (rpart3 o ho _).mono ?_
  rintro e w' ⟨rfl, rfl⟩
  go_wp2_with fail
  refine (rscale_any (pt1 u) (255 - pt3 o) (by omega) (by omega) _).mono ?_
  rintro e w' ⟨rfl, rfl⟩
  go_wp2
  rw [n1.out]
  clear n1
  rw [rounds_succ]
  go_wp2_with fail
  refine (rpart2 o ho _).mono ?_
  rintro e w' ⟨rfl, rfl⟩
  go_wp2_with fail
  refine (rpart2 u hu _).mono ?_
  rintro e w' ⟨rfl, rfl⟩
  go_wp2_with fail
  refine (rpart3 o ho _).mono ?_
  rintro e w' ⟨rfl, rfl⟩
  go_wp2_with fail
  refine (rscale_any (pt2 u) (255 - pt3 o) (by omega) (by omega) _).mono ?_
  rintro e w' ⟨rfl, rfl⟩
  go_wp2
  rw [n2.out]
  clear n2
  rw [rounds_succ]
  go_wp2_with fail
  refine (rpart3 o ho _).mono ?_
  rintro e w' ⟨rfl, rfl⟩
  go_wp2_with fail
  refine (rpart3 u hu _).mono ?_
  rintro e w' ⟨rfl, rfl⟩
  go_wp2_with fail
  refine (rpart3 o ho _).mono ?_
  rintro e w' ⟨rfl, rfl⟩
  go_wp2_with fail
  refine (rscale_any (pt3 u) (255 - pt3 o) (by omega) (by omega) _).mono ?_
  rintro e w' ⟨rfl, rfl⟩
  go_wp2
  rw [n3.out]
  clear n3
  rw [rounds_succ]
  go_wp2
  go_ret
  exact ⟨ret_i (by rw [HJ.out]; omega), rfl⟩

end Go.Proofs.YtldnggokkkhihaaDoor
