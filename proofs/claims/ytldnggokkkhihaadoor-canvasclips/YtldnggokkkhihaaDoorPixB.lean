/- Colours: what the program's small functions answer. -/
import Derived.Test.YtldnggokkkhihaaDoorLibK
import Derived.Test.YtldnggokkkhihaaDoorPixA
import Derived.Test.YtldnggokkkhihaaDoorChecked
import Derived.BigQuiet
import Derived.LoopN
import Derived.Deep.RegionHeldLaw
namespace Go.Proofs.YtldnggokkkhihaaDoor
open Go Go.RowKit

theorem ret_i {k : IntKind} {a b : Int} (h : a = b) : Ending.returned (.int k a) = .returned (.int k b) := by rw [h]

theorem pcut_any (n : Int) (_hn : -9223372036854775808 ≤ n ∧ n ≤ 9223372036854775807) (w : World) :
    Calls Tryd.prog 55 #[.int .i64 n] w fun e w' => e = .returned (.int .i64 (ct n)) ∧ w' = w := by
  go_enter Tryd.func55, Tryd.ntmps55
  go_wp2
  all_goals
    go_ret
    exact ⟨ret_i (by unfold ct; omega), rfl⟩

set_option maxHeartbeats 1000000 in
theorem split_any (u : Int) (hu : Col u) (w : World) :
    Calls Tryd.prog 41 #[.int .u32 u] w fun e w' => e = .returned (.agg #[.int .i64 (pt3 u), .int .i64 (pt2 u), .int .i64 (pt1 u), .int .i64 (pt0 u)]) ∧ Below w.heap.size w w' := by
  obtain ⟨h0, h1⟩ := hu
  go_enter Tryd.func41, Tryd.ntmps41
  go_wp2
  refine wp_loop_rounds 5 ?_
  rw [rounds_succ]; go_wp2
  rw [rounds_succ]; go_wp2
  rw [rounds_succ]; go_wp2
  rw [rounds_succ]; go_wp2
  rw [rounds_succ]; go_wp2
  have e3 : u / 16777216 = pt3 u := by unfold pt3; omega
  have e2 : u * 256 % 4294967296 / 16777216 = pt2 u := by unfold pt2; omega
  have e1 : u * 256 % 4294967296 * 256 % 4294967296 / 16777216 = pt1 u := by unfold pt1; omega
  have e0 : u * 256 % 4294967296 * 256 % 4294967296 * 256 % 4294967296 / 16777216 = pt0 u := by unfold pt0; omega
  rw [e3, e2, e1, e0]
  exact bodyPost_ret (v := .agg #[.int .i64 (pt3 u), .int .i64 (pt2 u), .int .i64 (pt1 u), .int .i64 (pt0 u)]) (by simp [results, Tryd.results41, go_sem]) rfl ⟨rfl, ((Below.refl _ _).alloc (Nat.le_refl _) _).alloc (by simp) _⟩

set_option maxHeartbeats 1000000 in
theorem join_any (a r g b : Int) (ha : -9223372036854775808 ≤ a ∧ a ≤ 9223372036854775807) (hr : -9223372036854775808 ≤ r ∧ r ≤ 9223372036854775807) (hg : -9223372036854775808 ≤ g ∧ g ≤ 9223372036854775807) (hb : -9223372036854775808 ≤ b ∧ b ≤ 9223372036854775807) (w : World) :
    Calls Tryd.prog 43 #[.agg #[.int .i64 a, .int .i64 r, .int .i64 g, .int .i64 b]] w fun e w' => e = .returned (.int .u32 (jn a r g b)) ∧ Below w.heap.size w w' := by
  have b1 := ct_bd a
  have b2 := ct_bd r
  have b3 := ct_bd g
  have b4 := ct_bd b
  have HJ : Hid (jn a r g b = ((ct a * 256 + ct r) * 256 + ct g) * 256 + ct b) := rfl
  go_enter Tryd.func43, Tryd.ntmps43
  go_wp2
  refine wp_loop_rounds 5 ?_
  rw [rounds_succ]; go_wp2_with (go_at_call 55; refine (pcut_any _ ha _).mono ?_; rintro e w' ⟨rfl, rfl⟩)
  rw [rounds_succ]; go_wp2_with (go_at_call 55; refine (pcut_any _ hr _).mono ?_; rintro e w' ⟨rfl, rfl⟩)
  rw [rounds_succ]; go_wp2_with (go_at_call 55; refine (pcut_any _ hg _).mono ?_; rintro e w' ⟨rfl, rfl⟩)
  rw [rounds_succ]; go_wp2_with (go_at_call 55; refine (pcut_any _ hb _).mono ?_; rintro e w' ⟨rfl, rfl⟩)
  rw [rounds_succ]; go_wp2
  rw [or0 b1, orj (x := ct a) (by omega) b2, orj (x := ct a * 256 + ct r) (by omega) b3, orj (x := (ct a * 256 + ct r) * 256 + ct g) (by omega) b4]
  go_ret
  exact ⟨ret_i HJ.out.symm, (Below.refl _ _).alloc (Nat.le_refl _) _⟩

theorem scale_any (x y : Int) (hx : -9223372036854775808 ≤ x ∧ x ≤ 9223372036854775807) (hy : -9223372036854775808 ≤ y ∧ y ≤ 9223372036854775807) (w : World) :
    Calls Tryd.prog 42 #[.int .i64 x, .int .i64 y] w fun e w' => e = .returned (.int .i64 (scl x y)) ∧ w' = w := by
  have b1 := ct_bd x
  have b2 := ct_bd y
  have b3 := prod_bd b1 b2
  have HJ : Hid (scl x y = (ct x * ct y + 127) / 255) := rfl
  go_enter Tryd.func42, Tryd.ntmps42
  go_wp2_with (go_at_call 55; refine (pcut_any _ (by assumption) _).mono ?_; rintro e w' ⟨rfl, rfl⟩)
  go_ret
  exact ⟨ret_i HJ.out.symm, rfl⟩



end Go.Proofs.YtldnggokkkhihaaDoor
