/- PixelParts: for any two colours the call returns true; nothing that was there has turned. -/
import Derived.Test.YtfoobpddpnpakaaPixC
namespace Go.Proofs.Ytfoobpddpnpakaa.pixelParts
open Go Go.RowKit

theorem max4 (a b c d : Int) : ∃ M : Int, (∀ u : World, (Builtin.max_ #[3, 3, 3, 3] 3 #[.int .i64 a, .int .i64 b, .int .i64 c, .int .i64 d]).run Try.prog u = .ok (.int .i64 M) u) ∧ (M = a ∨ M = b ∨ M = c ∨ M = d) := by
  obtain ⟨M, hM⟩ : ∃ M : Int, M = (if d > (if c > (if b > a then b else a) then c else (if b > a then b else a)) then d else (if c > (if b > a then b else a) then c else (if b > a then b else a))) := ⟨_, rfl⟩
  refine ⟨M, fun u => ?_, by omega⟩
  rw [hM]
  simp [Builtin.max_, Builtin.max2]
theorem min4 (a b c d : Int) : ∃ M : Int, (∀ u : World, (Builtin.min_ #[3, 3, 3, 3] 3 #[.int .i64 a, .int .i64 b, .int .i64 c, .int .i64 d]).run Try.prog u = .ok (.int .i64 M) u) ∧ (M = a ∨ M = b ∨ M = c ∨ M = d) := by
  obtain ⟨M, hM⟩ : ∃ M : Int, M = (if d < (if c < (if b < a then b else a) then c else (if b < a then b else a)) then d else (if c < (if b < a then b else a) then c else (if b < a then b else a))) := ⟨_, rfl⟩
  refine ⟨M, fun u => ?_, by omega⟩
  rw [hM]
  simp [Builtin.min_, Builtin.min2]

set_option maxRecDepth 100000 in
set_option maxHeartbeats 2000000 in
theorem core (u o : Int) (w : World) (hu : Col u) (ho : Col o) : Calls Try.prog 7 #[.int .u32 u, .int .u32 o] w fun e w' => e = .returned (.bool true) ∧ Below w.heap.size w w' := by
  have a3 := pt3_bd u
  have b3 := pt3_bd o
  have a2 := pt2_bd u
  have b2 := pt2_bd o
  have a1 := pt1_bd u
  have b1 := pt1_bd o
  have a0 := pt0_bd u
  have b0 := pt0_bd o
  have c3 := scl_bd (pt3 u) (255 - pt3 o)
  have c2 := scl_bd (pt2 u) (255 - pt3 o)
  have c1 := scl_bd (pt1 u) (255 - pt3 o)
  have c0 := scl_bd (pt0 u) (255 - pt3 o)
  have HJ : Hid (jn (pt3 o + scl (pt3 u) (255 - pt3 o)) (pt2 o + scl (pt2 u) (255 - pt3 o)) (pt1 o + scl (pt1 u) (255 - pt3 o)) (pt0 o + scl (pt0 u) (255 - pt3 o)) = ovr u o) := rfl
  obtain ⟨M, hmx, hM⟩ := max4 (pt3 u) (pt2 u) (pt1 u) (pt0 u)
  obtain ⟨m, hmn, hm⟩ := min4 (pt3 u) (pt2 u) (pt1 u) (pt0 u)
  have lM : M ≤ 255 := by rcases hM with rfl | rfl | rfl | rfl <;> omega
  have lm : 0 ≤ m := by rcases hm with rfl | rfl | rfl | rfl <;> omega
  clear hM hm
  go_enter Try.func7, Try.ntmps7
  have hw : Below w.heap.size w w := Below.refl _ _
  go_wp2_with fail
  refine (parts_any u hu _).mono ?_
  rintro e w1 ⟨rfl, hb⟩
  replace hw := Below.on hw hb
  clear hb
  go_wp2_with fail
  refine (parts_any o ho _).mono ?_
  rintro e w2 ⟨rfl, hb⟩
  replace hw := Below.on hw hb
  clear hb
  go_wp2_with fail
  refine (over_any u o hu ho _).mono ?_
  rintro e w3 ⟨rfl, hb⟩
  replace hw := Below.on hw hb
  clear hb
  go_wp2_with fail
  refine (scale_any (pt3 u) (255 - pt3 o) (by omega) (by omega) _).mono ?_
  rintro e w4 ⟨rfl, rfl⟩
  go_wp2_with fail
  refine (scale_any (pt2 u) (255 - pt3 o) (by omega) (by omega) _).mono ?_
  rintro e w5 ⟨rfl, rfl⟩
  go_wp2_with fail
  refine (scale_any (pt1 u) (255 - pt3 o) (by omega) (by omega) _).mono ?_
  rintro e w6 ⟨rfl, rfl⟩
  go_wp2_with fail
  refine (scale_any (pt0 u) (255 - pt3 o) (by omega) (by omega) _).mono ?_
  rintro e w7 ⟨rfl, rfl⟩
  go_wp2_with fail
  refine (pjoin_any (pt3 o + scl (pt3 u) (255 - pt3 o)) (pt2 o + scl (pt2 u) (255 - pt3 o)) (pt1 o + scl (pt1 u) (255 - pt3 o)) (pt0 o + scl (pt0 u) (255 - pt3 o)) (by omega) (by omega) (by omega) (by omega) _).mono ?_
  rintro e w8 ⟨rfl, hb⟩
  replace hw := Below.on hw hb
  clear hb
  rw [HJ.out]
  go_wp2_with fail
  refine (pjoin_any (pt3 u) (pt2 u) (pt1 u) (pt0 u) (by omega) (by omega) (by omega) (by omega) _).mono ?_
  rintro e w9 ⟨rfl, hb⟩
  replace hw := Below.on hw hb
  clear hb
  rw [jn_pts hu]
  go_wp2_with fail
  refine (awake_any _).mono ?_
  rintro e w10 ⟨rfl, hb⟩
  replace hw := Below.on hw hb
  clear hb
  go_wp2
  go_ret
  exact ⟨rfl, hw⟩

theorem walk (u o : Int) (w : World) (hu : (Lit.int .u32 u).wf = true) (ho : (Lit.int .u32 o).wf = true) :
    Calls Try.prog 7 #[.int .u32 u, .int .u32 o] w fun e w' => e = .returned (.bool true) ∧ Below w.heap.size w w' :=
  core u o w (wfu hu) (wfu ho)
end Go.Proofs.Ytfoobpddpnpakaa.pixelParts
