/- PixelOvers: for any two colours the call returns true; nothing that was there has turned. -/
import Derived.Test.YtfoobpddpnpakaaPixC
namespace Go.Proofs.Ytfoobpddpnpakaa.pixelOvers
open Go Go.RowKit

set_option maxRecDepth 100000 in
set_option maxHeartbeats 2000000 in
theorem core (u o : Int) (w : World) (hu : Col u) (ho : Col o) : Calls Try.prog 4 #[.int .u32 u, .int .u32 o] w fun e w' => e = .returned (.bool true) ∧ Below w.heap.size w w' := by
  have hor : bits .or .u32 u 4278190080 = ful u := or_ful hu
  have hor2 : bits .or .u32 o 4278190080 = ful o := or_ful ho
  have q1 : Hid (pt3 (ovr (ful u) o) = 255) := ovr_opaque (ful_pt u)
  have q2 : Hid (lod u 1 = ful u) := ful_jn u
  go_enter Try.func4, Try.ntmps4
  have hw : Below w.heap.size w w := Below.refl _ _
  go_wp2_with fail
  refine (over_any (ful u) o (ful_col u) ho _).mono ?_
  rintro e w1 ⟨rfl, hb⟩
  replace hw := Below.on hw hb
  clear hb
  go_wp2_with fail
  refine (parts_any (ovr (ful u) o) (ovr_bd _ _) _).mono ?_
  rintro e w2 ⟨rfl, hb⟩
  replace hw := Below.on hw hb
  clear hb
  rw [q1.out]
  go_wp2_with fail
  refine (over_any u (ful o) hu (ful_col o) _).mono ?_
  rintro e w3 ⟨rfl, hb⟩
  replace hw := Below.on hw hb
  clear hb
  rw [ovr_full (ful_col o) (ful_pt o)]
  go_wp2_with fail
  refine (over_any u 0 hu (by unfold Col; omega) _).mono ?_
  rintro e w4 ⟨rfl, hb⟩
  replace hw := Below.on hw hb
  clear hb
  rw [ovr_none hu]
  go_wp2_with fail
  refine (over_any 0 o (by unfold Col; omega) ho _).mono ?_
  rintro e w5 ⟨rfl, hb⟩
  replace hw := Below.on hw hb
  clear hb
  rw [ovr_zero ho]
  go_wp2_with fail
  refine (load_any u 1 hu (by omega) _).mono ?_
  rintro e w6 ⟨rfl, hb⟩
  replace hw := Below.on hw hb
  clear hb
  rw [q2.out]
  go_wp2_with fail
  refine (awake_any _).mono ?_
  rintro e w7 ⟨rfl, hb⟩
  replace hw := Below.on hw hb
  clear hb
  go_wp2
  go_ret
  exact ⟨rfl, hw⟩

theorem walk (u o : Int) (w : World) (hu : (Lit.int .u32 u).wf = true) (ho : (Lit.int .u32 o).wf = true) :
    Calls Try.prog 4 #[.int .u32 u, .int .u32 o] w fun e w' => e = .returned (.bool true) ∧ Below w.heap.size w w' :=
  core u o w (wfu hu) (wfu ho)
end Go.Proofs.Ytfoobpddpnpakaa.pixelOvers
