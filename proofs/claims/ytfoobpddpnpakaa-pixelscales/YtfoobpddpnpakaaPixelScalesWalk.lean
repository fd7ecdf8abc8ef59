/- PixelScales: for any three numbers the call returns true; nothing that was there has turned. -/
import Derived.Test.YtfoobpddpnpakaaPixC
import Derived.Test.YtfoobpddpnpakaaLibP
namespace Go.Proofs.Ytfoobpddpnpakaa.pixelScales
open Go Go.RowKit

set_option maxRecDepth 100000 in
set_option maxHeartbeats 2000000 in
theorem core (x y z : Int) (w : World) (hx : -9223372036854775808 ≤ x ∧ x ≤ 9223372036854775807) (hy : -9223372036854775808 ≤ y ∧ y ≤ 9223372036854775807) (hz : -9223372036854775808 ≤ z ∧ z ≤ 9223372036854775807) : Calls Try.prog 5 #[.int .i64 x, .int .i64 y, .int .i64 z] w fun e w' => e = .returned (.bool true) ∧ Below w.heap.size w w' := by
  have q1 := plc_lt x 256 (by omega)
  have q2 := plc_lt y 256 (by omega)
  have q3 := plc_lt z 256 (by omega)
  have P1 := hid (fun w => place_any x 256 hx (by omega) (by omega) w)
  have P2 := hid (fun w => place_any y 256 hy (by omega) (by omega) w)
  have P3 := hid (fun w => place_any z 256 hz (by omega) (by omega) w)
  generalize plc x 256 = A at P1 q1
  generalize plc y 256 = B at P2 q2
  generalize plc z 256 = C at P3 q3
  have ba : 0 ≤ (A : Int) ∧ (A : Int) ≤ 255 := by omega
  have bb : 0 ≤ (B : Int) ∧ (B : Int) ≤ 255 := by omega
  have bc : 0 ≤ (C : Int) ∧ (C : Int) ≤ 255 := by omega
  clear q1 q2 q3 hx hy hz
  generalize (A : Int) = a at P1 ba
  generalize (B : Int) = b at P2 bb
  generalize (C : Int) = c at P3 bc
  have bs := scl_bd a b
  have nr := scl_near ba bb
  have pr := prod_bd ba bb
  have S1 := hid (fun w => scale_any a b (by omega) (by omega) w)
  have S2 := hid (fun w => scale_any b a (by omega) (by omega) w)
  have S3 := hid (fun w => scale_any a 255 (by omega) (by omega) w)
  have S4 := hid (fun w => scale_any a 0 (by omega) (by omega) w)
  rw [scl_swap b a] at S2
  rw [scl_full, ct_id ba] at S3
  rw [scl_none] at S4
  have S5 := hid (fun w => scale_any a c (by omega) (by omega) w)
  have bt := scl_bd a c
  have mo := fun h => scl_mono (x := a) (y := b) (z := c) h
  generalize scl a b = s at bs nr S1 S2 mo
  generalize scl a c = t at S5 bt mo
  by_cases hbc : b ≤ c
  · go_enter Try.func5, Try.ntmps5
    have hw : Below w.heap.size w w := Below.refl _ _
    have mo := mo hbc
    have ng : ¬ c < b := by omega
    go_wp2_with fail
    refine (P1.out _).mono ?_
    rintro e w1 ⟨rfl, rfl⟩
    go_wp2_with fail
    refine (P2.out _).mono ?_
    rintro e w2 ⟨rfl, rfl⟩
    go_wp2_with fail
    refine (P3.out _).mono ?_
    rintro e w3 ⟨rfl, rfl⟩
    go_wp2_with fail
    refine (S1.out _).mono ?_
    rintro e w4 ⟨rfl, rfl⟩
    go_wp2_with fail
    refine (S3.out _).mono ?_
    rintro e w5 ⟨rfl, rfl⟩
    go_wp2_with fail
    refine (S4.out _).mono ?_
    rintro e w6 ⟨rfl, rfl⟩
    go_wp2_with fail
    refine (S2.out _).mono ?_
    rintro e w7 ⟨rfl, rfl⟩
    go_wp2_with fail
    refine (S5.out _).mono ?_
    rintro e w8 ⟨rfl, rfl⟩
    go_wp2_with fail
    refine (awake_any _).mono ?_
    rintro e w9 ⟨rfl, hb⟩
    replace hw := Below.on hw hb
    clear hb
    go_wp2
    go_ret
    exact ⟨rfl, hw⟩
  · go_enter Try.func5, Try.ntmps5
    have hw : Below w.heap.size w w := Below.refl _ _
    clear mo
    have ng : c < b := by omega
    go_wp2_with fail
    refine (P1.out _).mono ?_
    rintro e w1 ⟨rfl, rfl⟩
    go_wp2_with fail
    refine (P2.out _).mono ?_
    rintro e w2 ⟨rfl, rfl⟩
    go_wp2_with fail
    refine (P3.out _).mono ?_
    rintro e w3 ⟨rfl, rfl⟩
    go_wp2_with fail
    refine (S1.out _).mono ?_
    rintro e w4 ⟨rfl, rfl⟩
    go_wp2_with fail
    refine (S3.out _).mono ?_
    rintro e w5 ⟨rfl, rfl⟩
    go_wp2_with fail
    refine (S4.out _).mono ?_
    rintro e w6 ⟨rfl, rfl⟩
    go_wp2_with fail
    refine (S2.out _).mono ?_
    rintro e w7 ⟨rfl, rfl⟩
    go_wp2_with fail
    refine (awake_any _).mono ?_
    rintro e w8 ⟨rfl, hb⟩
    replace hw := Below.on hw hb
    clear hb
    go_wp2
    go_ret
    exact ⟨rfl, hw⟩

theorem walk (x y z : Int) (w : World) (hx : (Lit.int .i64 x).wf = true) (hy : (Lit.int .i64 y).wf = true) (hz : (Lit.int .i64 z).wf = true) :
    Calls Try.prog 5 #[.int .i64 x, .int .i64 y, .int .i64 z] w fun e w' => e = .returned (.bool true) ∧ Below w.heap.size w w' :=
  core x y z w (wfi hx) (wfi hy) (wfi hz)
end Go.Proofs.Ytfoobpddpnpakaa.pixelScales
