/- PixelThree: for any three colours and any number the call returns true; nothing that was there has turned. -/
import Derived.Test.YtfoobpddpnpakaaPixC
import Derived.Test.YtfoobpddpnpakaaLibP
namespace Go.Proofs.Ytfoobpddpnpakaa.pixelThree
open Go Go.RowKit

set_option maxRecDepth 100000 in
set_option maxHeartbeats 2000000 in
theorem core (u v o n : Int) (w : World) (hu : Col u) (hv : Col v) (ho : Col o) (hn : -9223372036854775808 ≤ n ∧ n ≤ 9223372036854775807) : Calls Try.prog 8 #[.int .u32 u, .int .u32 v, .int .u32 o, .int .i64 n] w fun e w' => e = .returned (.bool true) ∧ Below w.heap.size w w' := by
  have hor : bits .or .u32 v 4278190080 = ful v := or_ful hv
  have q1 := plc_lt n 100 (by omega)
  have q2 : Hid (lod v (2 + (plc n 100 : Nat)) = 0) := by simp only [Hid]; unfold lod; rw [if_neg (by omega), if_neg (by omega)]
  have q3 : Hid (lod v 0 = v) := rfl
  go_enter Try.func8, Try.ntmps8
  have hw : Below w.heap.size w w := Below.refl _ _
  go_wp2_with fail
  refine (over_any u (ful v) hu (ful_col v) _).mono ?_
  rintro e w1 ⟨rfl, hb⟩
  replace hw := Below.on hw hb
  clear hb
  rw [ovr_full (ful_col v) (ful_pt v)]
  go_wp2_with fail
  refine (over_any (ful v) o (ful_col v) ho _).mono ?_
  rintro e w2 ⟨rfl, hb⟩
  replace hw := Below.on hw hb
  clear hb
  go_wp2_with fail
  refine (over_any (ful v) o (ful_col v) ho _).mono ?_
  rintro e w3 ⟨rfl, hb⟩
  replace hw := Below.on hw hb
  clear hb
  go_wp2_with fail
  refine (place_any n 100 hn (by omega) (by omega) _).mono ?_
  rintro e w4 ⟨rfl, rfl⟩
  go_wp2_with fail
  refine (load_any v (2 + (plc n 100 : Nat)) hv (by omega) _).mono ?_
  rintro e w5 ⟨rfl, hb⟩
  replace hw := Below.on hw hb
  clear hb
  rw [q2.out]
  go_wp2_with fail
  refine (load_any v 0 hv (by omega) _).mono ?_
  rintro e w6 ⟨rfl, hb⟩
  replace hw := Below.on hw hb
  clear hb
  rw [q3.out]
  go_wp2_with fail
  refine (awake_any _).mono ?_
  rintro e w7 ⟨rfl, hb⟩
  replace hw := Below.on hw hb
  clear hb
  go_wp2
  go_ret
  exact ⟨rfl, hw⟩

theorem walk (u v o n : Int) (w : World) (hu : (Lit.int .u32 u).wf = true) (hv : (Lit.int .u32 v).wf = true) (ho : (Lit.int .u32 o).wf = true) (hn : (Lit.int .i64 n).wf = true) :
    Calls Try.prog 8 #[.int .u32 u, .int .u32 v, .int .u32 o, .int .i64 n] w fun e w' => e = .returned (.bool true) ∧ Below w.heap.size w w' :=
  core u v o n w (wfu hu) (wfu hv) (wfu ho) (wfi hn)
end Go.Proofs.Ytfoobpddpnpakaa.pixelThree
