/- PixelAll: for any two colours and any four numbers the call returns true; nothing that was there has turned. -/
import Derived.Test.YtfoobpddpnpakaaPixC
import Derived.Test.YtfoobpddpnpakaaPixD
namespace Go.Proofs.Ytfoobpddpnpakaa.pixelAll
open Go Go.RowKit

set_option maxRecDepth 100000 in
set_option maxHeartbeats 2000000 in
theorem core (u o a r g b : Int) (w : World) (hu : Col u) (ho : Col o) (ha : -9223372036854775808 ≤ a ∧ a ≤ 9223372036854775807) (hr : -9223372036854775808 ≤ r ∧ r ≤ 9223372036854775807) (hg : -9223372036854775808 ≤ g ∧ g ≤ 9223372036854775807) (hb : -9223372036854775808 ≤ b ∧ b ≤ 9223372036854775807) : Calls Try.prog 3 #[.int .u32 u, .int .u32 o, .int .i64 a, .int .i64 r, .int .i64 g, .int .i64 b] w fun e w' => e = .returned (.bool true) ∧ Below w.heap.size w w' := by
  go_enter Try.func3, Try.ntmps3
  have hw : Below w.heap.size w w := Below.refl _ _
  go_wp2_with fail
  refine (parts_any u hu _).mono ?_
  rintro e w1 ⟨rfl, hb⟩
  replace hw := Below.on hw hb
  clear hb
  go_wp2_with fail
  refine (over_any u o hu ho _).mono ?_
  rintro e w2 ⟨rfl, hb⟩
  replace hw := Below.on hw hb
  clear hb
  go_wp2_with fail
  refine (rover_any u o hu ho _).mono ?_
  rintro e w3 ⟨rfl, rfl⟩
  go_wp2_with fail
  refine (pjoin_any a r g b ha hr hg hb _).mono ?_
  rintro e w4 ⟨rfl, hb⟩
  replace hw := Below.on hw hb
  clear hb
  go_wp2_with fail
  refine (rjoin_any a r g b ha hr hg hb _).mono ?_
  rintro e w5 ⟨rfl, rfl⟩
  go_wp2_with fail
  refine (scale_any a b ha hb _).mono ?_
  rintro e w6 ⟨rfl, rfl⟩
  go_wp2_with fail
  refine (rscale_any a b ha hb _).mono ?_
  rintro e w7 ⟨rfl, rfl⟩
  go_wp2_with fail
  refine (load_any u a hu ha _).mono ?_
  rintro e w8 ⟨rfl, hb⟩
  replace hw := Below.on hw hb
  clear hb
  go_wp2_with fail
  refine (rload_any u a hu ha _).mono ?_
  rintro e w9 ⟨rfl, rfl⟩
  go_wp2_with fail
  refine (rpart3 u hu _).mono ?_
  rintro e w10 ⟨rfl, rfl⟩
  go_wp2_with fail
  refine (rpart2 u hu _).mono ?_
  rintro e w11 ⟨rfl, rfl⟩
  go_wp2_with fail
  refine (rpart1 u hu _).mono ?_
  rintro e w12 ⟨rfl, rfl⟩
  go_wp2_with fail
  refine (rpart0 u hu _).mono ?_
  rintro e w13 ⟨rfl, rfl⟩
  go_wp2_with fail
  refine (awake_any _).mono ?_
  rintro e w14 ⟨rfl, hb⟩
  replace hw := Below.on hw hb
  clear hb
  go_wp2
  go_ret
  exact ⟨rfl, hw⟩

theorem walk (u o a r g b : Int) (w : World) (hu : (Lit.int .u32 u).wf = true) (ho : (Lit.int .u32 o).wf = true) (ha : (Lit.int .i64 a).wf = true) (hr : (Lit.int .i64 r).wf = true) (hg : (Lit.int .i64 g).wf = true) (hb : (Lit.int .i64 b).wf = true) :
    Calls Try.prog 3 #[.int .u32 u, .int .u32 o, .int .i64 a, .int .i64 r, .int .i64 g, .int .i64 b] w fun e w' => e = .returned (.bool true) ∧ Below w.heap.size w w' :=
  core u o a r g b w (wfu hu) (wfu ho) (wfi ha) (wfi hr) (wfi hg) (wfi hb)
end Go.Proofs.Ytfoobpddpnpakaa.pixelAll
