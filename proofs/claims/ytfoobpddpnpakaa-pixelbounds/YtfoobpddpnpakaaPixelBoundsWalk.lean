/- PixelBounds: for any two colours the call returns true; nothing that was there has turned. -/
import Derived.Test.YtfoobpddpnpakaaPixC
import Derived.Test.YtfoobpddpnpakaaLibP
namespace Go.Proofs.Ytfoobpddpnpakaa.pixelBounds
open Go Go.RowKit

theorem ct_le {a b : Int} (h : a ≤ b) : ct a ≤ ct b := ct_mono h
theorem bounds {u o X Y : Int} (eX : X = jn (pt3 u) (min (pt2 u) (pt3 u)) (min (pt1 u) (pt3 u)) (min (pt0 u) (pt3 u))) (eY : Y = jn (pt3 o) (min (pt2 o) (pt3 o)) (min (pt1 o) (pt3 o)) (min (pt0 o) (pt3 o))) : pt3 o ≤ pt3 (ovr X Y) ∧ pt2 (ovr X Y) ≤ pt3 (ovr X Y) ∧ pt1 (ovr X Y) ≤ pt3 (ovr X Y) ∧ pt0 (ovr X Y) ≤ pt3 (ovr X Y) := by
  have x3 : pt3 X = pt3 u := by rw [eX, pt3_jn, ct_id (pt3_bd u)]
  have y3 : pt3 Y = pt3 o := by rw [eY, pt3_jn, ct_id (pt3_bd o)]
  have x2 : pt2 X ≤ pt3 X := by rw [eX, pt2_jn, pt3_jn]; exact ct_mono (Int.min_le_right _ _)
  have x1 : pt1 X ≤ pt3 X := by rw [eX, pt1_jn, pt3_jn]; exact ct_mono (Int.min_le_right _ _)
  have x0 : pt0 X ≤ pt3 X := by rw [eX, pt0_jn, pt3_jn]; exact ct_mono (Int.min_le_right _ _)
  have y2 : pt2 Y ≤ pt3 Y := by rw [eY, pt2_jn, pt3_jn]; exact ct_mono (Int.min_le_right _ _)
  have y1 : pt1 Y ≤ pt3 Y := by rw [eY, pt1_jn, pt3_jn]; exact ct_mono (Int.min_le_right _ _)
  have y0 : pt0 Y ≤ pt3 Y := by rw [eY, pt0_jn, pt3_jn]; exact ct_mono (Int.min_le_right _ _)
  have z2 := scl_monoL (z := 255 - pt3 Y) x2
  have z1 := scl_monoL (z := 255 - pt3 Y) x1
  have z0 := scl_monoL (z := 255 - pt3 Y) x0
  have z3 := scl_bd (pt3 X) (255 - pt3 Y)
  have b3 := pt3_bd o
  unfold ovr
  rw [pt3_jn, pt2_jn, pt1_jn, pt0_jn]
  refine ⟨?_, ct_mono (by omega), ct_mono (by omega), ct_mono (by omega)⟩
  rw [← y3] at b3 ⊢
  unfold ct
  omega

set_option maxRecDepth 100000 in
set_option maxHeartbeats 2000000 in
theorem core (u o : Int) (w : World) (hu : Col u) (ho : Col o) : Calls Try.prog 6 #[.int .u32 u, .int .u32 o] w fun e w' => e = .returned (.bool true) ∧ Below w.heap.size w w' := by
  have a3 := pt3_bd u
  have b3 := pt3_bd o
  have a2 := pt2_bd u
  have b2 := pt2_bd o
  have a1 := pt1_bd u
  have b1 := pt1_bd o
  have a0 := pt0_bd u
  have b0 := pt0_bd o
  obtain ⟨X, eX⟩ : ∃ X : Int, X = jn (pt3 u) (min (pt2 u) (pt3 u)) (min (pt1 u) (pt3 u)) (min (pt0 u) (pt3 u)) := ⟨_, rfl⟩
  obtain ⟨Y, eY⟩ : ∃ Y : Int, Y = jn (pt3 o) (min (pt2 o) (pt3 o)) (min (pt1 o) (pt3 o)) (min (pt0 o) (pt3 o)) := ⟨_, rfl⟩
  have cX : Col X := by rw [eX]; exact jn_bd _ _ _ _
  have cY : Col Y := by rw [eY]; exact jn_bd _ _ _ _
  obtain ⟨r0, r1, r2, r3⟩ := bounds (u := u) (o := o) eX eY
  have J1 := hid (fun w => pjoin_any (pt3 u) (min (pt2 u) (pt3 u)) (min (pt1 u) (pt3 u)) (min (pt0 u) (pt3 u)) (by omega) (by omega) (by omega) (by omega) w)
  have J2 := hid (fun w => pjoin_any (pt3 o) (min (pt2 o) (pt3 o)) (min (pt1 o) (pt3 o)) (min (pt0 o) (pt3 o)) (by omega) (by omega) (by omega) (by omega) w)
  rw [← eX] at J1
  rw [← eY] at J2
  clear eX eY
  have PZ := hid (fun w => parts_any (ovr X Y) (ovr_bd _ _) w)
  have pb := pt3_bd (ovr X Y)
  have HP := hid (fun w => place_any (pt3 (ovr X Y)) 256 (by omega) (by omega) (by omega) w)
  rw [show ((plc (pt3 (ovr X Y)) 256 : Nat) : Int) = pt3 (ovr X Y) from by unfold plc; omega] at HP
  have OV := hid (fun w => over_any X Y cX cY w)
  generalize pt3 (ovr X Y) = p3 at r0 r1 r2 r3 PZ HP pb
  generalize pt2 (ovr X Y) = p2 at r1 PZ
  generalize pt1 (ovr X Y) = p1 at r2 PZ
  generalize pt0 (ovr X Y) = p0 at r3 PZ
  generalize ovr X Y = Z at OV PZ
  go_enter Try.func6, Try.ntmps6
  have hw : Below w.heap.size w w := Below.refl _ _
  go_wp2_with fail
  refine (parts_any u hu _).mono ?_
  rintro e w1 ⟨rfl, hb⟩
  replace hw := Below.on hw hb
  clear hb
  go_wp2_with fail
  refine (parts_any o ho _).mono ?_
  rintro e w2 ⟨rfl, hb⟩
  replace hw := Below.on hw hb
  clear hb
  go_wp2_with fail
  refine (J1.out _).mono ?_
  rintro e w3 ⟨rfl, hb⟩
  replace hw := Below.on hw hb
  clear hb
  go_wp2_with fail
  refine (J2.out _).mono ?_
  rintro e w4 ⟨rfl, hb⟩
  replace hw := Below.on hw hb
  clear hb
  go_wp2_with fail
  refine (OV.out _).mono ?_
  rintro e w5 ⟨rfl, hb⟩
  replace hw := Below.on hw hb
  clear hb
  go_wp2_with fail
  refine (PZ.out _).mono ?_
  rintro e w6 ⟨rfl, hb⟩
  replace hw := Below.on hw hb
  clear hb
  go_wp2_with fail
  refine (HP.out _).mono ?_
  rintro e w7 ⟨rfl, rfl⟩
  go_wp2_with fail
  refine (awake_any _).mono ?_
  rintro e w8 ⟨rfl, hb⟩
  replace hw := Below.on hw hb
  clear hb
  go_wp2
  go_ret
  exact ⟨rfl, hw⟩

theorem walk (u o : Int) (w : World) (hu : (Lit.int .u32 u).wf = true) (ho : (Lit.int .u32 o).wf = true) :
    Calls Try.prog 6 #[.int .u32 u, .int .u32 o] w fun e w' => e = .returned (.bool true) ∧ Below w.heap.size w w' :=
  core u o w (wfu hu) (wfu ho)
end Go.Proofs.Ytfoobpddpnpakaa.pixelBounds
