/- RectBounds: for every three numbers the call returns true; nothing that was there has turned. -/
import Derived.Test.YthencokiobakdaaRectK
namespace Go.Proofs.Ythencokiobakdaa.rectBounds
open Go Go.RowKit

theorem right0 (y k : Int) (hk : 1 ≤ k ∧ k ≤ 1000) : bnd ⟨16777216 - 0, y, k, 5⟩ = rz := by
  rw [bnd_full (by simp [emp]; omega), oft_left]
  simp only [ed]
  split <;> omega
theorem left0 (y k : Int) (hk : 1 ≤ k ∧ k ≤ 1000) : bnd ⟨-16777216 - k + 0, y, k, 5⟩ = rz := by
  rw [bnd_full (by simp [emp]; omega), oft_left]
  simp only [ed]
  split <;> omega
theorem rightN (y k o : Int) (hk : 1 ≤ k ∧ k ≤ 1000) (ho : 1 ≤ o ∧ o ≤ k) (hy : 0 ≤ y ∧ y < 1000) : bnd ⟨16777216 - o, y, k, 5⟩ = ⟨16777216 - o, y, o, 5⟩ := by
  have e1 : ed (16777216 - o) k = 16777216 := by unfold ed; split <;> omega
  have e2 : ed y 5 = y + 5 := by rw [ed, if_pos (by omega)]
  rw [bnd_full (by simp [emp]; omega), e1, e2]
  dsimp only
  rw [oft_full (by omega) (by omega), Rc.mk.injEq]
  omega
theorem leftN (y k o : Int) (hk : 1 ≤ k ∧ k ≤ 1000) (ho : 1 ≤ o ∧ o ≤ k) (hy : 0 ≤ y ∧ y < 1000) : bnd ⟨-16777216 - k + o, y, k, 5⟩ = ⟨-16777216, y, o, 5⟩ := by
  have e1 : ed (-16777216 - k + o) k = -16777216 + o := by unfold ed; split <;> omega
  have e2 : ed y 5 = y + 5 := by rw [ed, if_pos (by omega)]
  rw [bnd_full (by simp [emp]; omega), e1, e2]
  dsimp only
  rw [oft_full (by omega) (by omega), Rc.mk.injEq]
  omega
theorem whole : bnd ⟨-9223372036854775808, -9223372036854775808, 9223372036854775807, 9223372036854775807⟩ = ⟨-16777216, -16777216, 16777215, 16777215⟩ := by rfl

set_option maxRecDepth 100000 in
set_option maxHeartbeats 1000000 in
theorem core (x n v : Int) (hx : -9223372036854775808 ≤ x ∧ x ≤ 9223372036854775807) (hn : -9223372036854775808 ≤ n ∧ n ≤ 9223372036854775807) (hv : -9223372036854775808 ≤ v ∧ v ≤ 9223372036854775807) (w : World) :
    Calls Try.prog 7 #[.int .i64 x, .int .i64 n, .int .i64 v] w fun e w' => e = .returned (.bool true) ∧ Below w.heap.size w w' := by
  have P1 := fun w => place_any n 1000 hn (by omega) (by omega) w
  have l1 := plc_lt n 1000 (by omega)
  generalize plc n 1000 = p at P1 l1
  have P2 := fun w => place_any v (1 + p + 1) hv (by omega) (by omega) w
  have l2 := plc_lt v (1 + p + 1) (by omega)
  generalize plc v (1 + p + 1) = o at P2 l2
  rw [show ((1 + p + 1 : Nat) : Int) = 1 + (p : Int) + 1 by omega] at P2
  have P3 := fun w => place_any x 1000 hx (by omega) (by omega) w
  have l3 := plc_lt x 1000 (by omega)
  generalize plc x 1000 = y at P3 l3
  have C1 := fun w => bound_any ⟨16777216 - (o : Int), y, 1 + (p : Int), 5⟩ ⟨by dsimp only; omega, by dsimp only; omega, by dsimp only; omega, by dsimp only; omega⟩ w
  have C2 := fun w => bound_any ⟨-16777216 - (1 + (p : Int)) + o, y, 1 + (p : Int), 5⟩ ⟨by dsimp only; omega, by dsimp only; omega, by dsimp only; omega, by dsimp only; omega⟩ w
  have hg := eqlR_guard
  have H1 := hid P1
  have H2 := hid P2
  have H3 := hid P3
  clear P1 P2 P3 hx hn hv
  by_cases h0 : o = 0
  · subst h0
    have e1 := right0 y (1 + (p : Int)) (by omega)
    have e2 := left0 y (1 + (p : Int)) (by omega)
    rw [show ((0 : Nat) : Int) = 0 from rfl] at C1 C2 H2
    rw [e1] at C1
    rw [e2] at C2
    have q := eqlR rz rz
    rw [rceq_same] at q
    dsimp only [rz] at C1 C2 q
    simp only [Int.add_zero] at C2
    simp only [Int.sub_zero] at C1
    have H4 := hid C1
    have H5 := hid C2
    clear C1 C2 e1 e2
    go_enter Try.func7, Try.ntmps7
    go_wp2_with fail
    refine (H1.out _).mono ?_
    rintro e w1 ⟨rfl, rfl⟩
    go_wp2_with fail
    refine (H2.out _).mono ?_
    rintro e w1 ⟨rfl, rfl⟩
    go_wp2_with fail
    refine (H3.out _).mono ?_
    rintro e w1 ⟨rfl, rfl⟩
    go_wp2_with fail
    refine (H4.out _).mono ?_
    rintro e w2 ⟨rfl, hb2⟩
    go_wp2_with fail
    refine (H5.out _).mono ?_
    rintro e w3 ⟨rfl, hb3⟩
    obtain ⟨hA, hw⟩ := box1 rz hb3
    replace hw := Below.on hb2 hw
    have aA := fun o => (hA.on (below_new w3 o)).all
    have a0 := fun o => (aA o).1
    have a1 := fun o => (aA o).2.1
    have a2 := fun o => (aA o).2.2.1
    have a3 := fun o => (aA o).2.2.2
    dsimp only [rz] at a0 a1 a2 a3
    clear aA hb2 hb3
    go_wp2_with fail
    refine (awake_any _).mono ?_
    rintro e w4 ⟨rfl, hb4⟩
    go_wp2
    go_ret
    exact ⟨rfl, Below.on (Below.on hw (below_new w3 _)) hb4⟩
  · have hne : ((o : Int) == 0) = false := by simp; omega
    have e1 := rightN y (1 + (p : Int)) o (by omega) (by omega) (by omega)
    have e2 := leftN y (1 + (p : Int)) o (by omega) (by omega) (by omega)
    rw [e1] at C1
    rw [e2] at C2
    have C3 := fun w => bound_any ⟨-9223372036854775808, -9223372036854775808, 9223372036854775807, 9223372036854775807⟩ ⟨by decide, by decide, by decide, by decide⟩ w
    rw [whole] at C3
    have q1 := eqlR ⟨16777216 - (o : Int), y, o, 5⟩ ⟨16777216 - (o : Int), y, o, 5⟩
    have q2 := eqlR ⟨-16777216, y, o, 5⟩ ⟨-16777216, y, o, 5⟩
    have q3 := eqlR ⟨-16777216, -16777216, 16777215, 16777215⟩ ⟨-16777216, -16777216, 16777215, 16777215⟩
    rw [rceq_same] at q1 q2 q3
    dsimp only at C1 C2 C3 q1 q2 q3
    have H4 := hid C1
    have H5 := hid C2
    have H6 := hid C3
    clear C1 C2 C3 e1 e2
    go_enter Try.func7, Try.ntmps7
    go_wp2_with fail
    refine (H1.out _).mono ?_
    rintro e w1 ⟨rfl, rfl⟩
    go_wp2_with fail
    refine (H2.out _).mono ?_
    rintro e w1 ⟨rfl, rfl⟩
    go_wp2_with fail
    refine (H3.out _).mono ?_
    rintro e w1 ⟨rfl, rfl⟩
    go_wp2_with fail
    refine (H4.out _).mono ?_
    rintro e w2 ⟨rfl, hb2⟩
    go_wp2_with fail
    refine (H5.out _).mono ?_
    rintro e w3 ⟨rfl, hb3⟩
    obtain ⟨hA, hw⟩ := box1 ⟨16777216 - (o : Int), y, o, 5⟩ hb3
    replace hw := Below.on hb2 hw
    have aA := fun o => (hA.on (below_new w3 o)).all
    have a0 := fun o => (aA o).1
    have a1 := fun o => (aA o).2.1
    have a2 := fun o => (aA o).2.2.1
    have a3 := fun o => (aA o).2.2.2
    clear aA hb2 hb3
    go_wp2_with fail
    refine (H6.out _).mono ?_
    rintro e w4 ⟨rfl, hb4⟩
    go_wp2_with fail
    refine (awake_any _).mono ?_
    rintro e w5 ⟨rfl, hb5⟩
    go_wp2
    go_ret
    exact ⟨rfl, Below.on (Below.on (Below.on hw (below_new w3 _)) hb4) hb5⟩

theorem walk (x n v : Int) (w : World) (hx : (Lit.int .i64 x).wf = true) (hn : (Lit.int .i64 n).wf = true) (hv : (Lit.int .i64 v).wf = true) : Calls Try.prog 7 #[.int .i64 x, .int .i64 n, .int .i64 v] w fun e w' => e = .returned (.bool true) ∧ Below w.heap.size w w' :=
  core x n v (range64 hx) (range64 hn) (range64 hv) w
end Go.Proofs.Ythencokiobakdaa.rectBounds
