/- The document's own Check, Has, of, Cut, Cover, Shift, Bound. -/
import Derived.Test.YtlkodgmnhphfcaaRectD
namespace Go.Proofs.Ytlkodgmnhphfcaa
open Go Go.RowKit

def inn (v : Int) : Bool := decide (-16777216 ≤ v) && decide (v ≤ 16777216)
/-- The document's Check. -/
def dck (a : Rc) : Bool := !emp a && inn a.x && inn a.y && decide (a.w ≤ 16777216 - a.x) && decide (a.h ≤ 16777216 - a.y)

theorem inn_any (v : Int) (w : World) : Calls Try.prog 35 #[.int .i64 v] w fun e w' => e = .returned (.bool (inn v)) ∧ w' = w := in_any v w
theorem inn_iff {v : Int} : inn v = true ↔ -16777216 ≤ v ∧ v ≤ 16777216 := by simp [inn]

set_option maxRecDepth 100000 in
set_option maxHeartbeats 1000000 in
theorem rcheck_any (a : Rc) (w : World) : Calls Try.prog 22 #[.agg #[.int .i64 a.x, .int .i64 a.y, .int .i64 a.w, .int .i64 a.h]] w fun e w' => e = .returned (.bool (dck a)) ∧ Below w.heap.size w w' := by
  have CE := hid (fun w => rempty_any a w)
  have CX := hid (fun w => inn_any a.x w)
  have CY := hid (fun w => inn_any a.y w)
  unfold dck
  cases he : emp a
  · rw [he] at CE
    cases hx : inn a.x
    · rw [hx] at CX
      go_enter Try.func22, Try.ntmps22
      go_wp2_with fail
      refine (CE.out _).mono ?_
      rintro e w1 ⟨rfl, hb1⟩
      obtain ⟨hA, hw⟩ := box1 a hb1
      obtain ⟨c0, c1, c2, c3⟩ := hA.all
      clear hb1 hA
      go_wp2_with fail
      refine (CX.out _).mono ?_
      rintro e w2 ⟨rfl, rfl⟩
      go_wp2
      go_ret
      exact ⟨rfl, hw⟩
    · rw [hx] at CX
      cases hy : inn a.y
      · rw [hy] at CY
        go_enter Try.func22, Try.ntmps22
        go_wp2_with fail
        refine (CE.out _).mono ?_
        rintro e w1 ⟨rfl, hb1⟩
        obtain ⟨hA, hw⟩ := box1 a hb1
        obtain ⟨c0, c1, c2, c3⟩ := hA.all
        clear hb1 hA
        go_wp2_with fail
        refine (CX.out _).mono ?_
        rintro e w2 ⟨rfl, rfl⟩
        go_wp2_with fail
        refine (CY.out _).mono ?_
        rintro e w3 ⟨rfl, rfl⟩
        go_wp2
        go_ret
        exact ⟨rfl, hw⟩
      · rw [hy] at CY
        have ix := inn_iff.1 hx
        have iy := inn_iff.1 hy
        go_enter Try.func22, Try.ntmps22
        go_wp2_with fail
        refine (CE.out _).mono ?_
        rintro e w1 ⟨rfl, hb1⟩
        obtain ⟨hA, hw⟩ := box1 a hb1
        obtain ⟨c0, c1, c2, c3⟩ := hA.all
        clear hb1 hA
        go_wp2_with fail
        refine (CX.out _).mono ?_
        rintro e w2 ⟨rfl, rfl⟩
        go_wp2_with fail
        refine (CY.out _).mono ?_
        rintro e w3 ⟨rfl, rfl⟩
        go_wp2
        all_goals
          go_ret
          exact ⟨ret_bool (by simp [*]; try omega), hw⟩
  · rw [he] at CE
    go_enter Try.func22, Try.ntmps22
    go_wp2_with fail
    refine (CE.out _).mono ?_
    rintro e w1 ⟨rfl, hb1⟩
    obtain ⟨hA, hw⟩ := box1 a hb1
    go_wp2
    go_ret
    exact ⟨rfl, hw⟩

set_option maxRecDepth 100000 in
theorem rhas_any (a : Rc) (ok : a.Ok) (x y : Int) (hx : -9223372036854775808 ≤ x ∧ x ≤ 9223372036854775807) (hy : -9223372036854775808 ≤ y ∧ y ≤ 9223372036854775807) (w : World) :
    Calls Try.prog 69 #[.agg #[.int .i64 a.x, .int .i64 a.y, .int .i64 a.w, .int .i64 a.h], .int .i64 x, .int .i64 y] w fun e w' => e = .returned (.bool (has a x y)) ∧ Below w.heap.size w w' := by
  have CE := hid (fun w => rempty_any a w)
  have HO := hid ok
  clear ok
  go_enter Try.func69, Try.ntmps69
  go_wp2_with fail
  refine (CE.out _).mono ?_
  rintro e w1 ⟨rfl, hb1⟩
  obtain ⟨hA, hw⟩ := box1 a hb1
  obtain ⟨c0, c1, c2, c3⟩ := hA.all
  cases he : emp a
  · obtain ⟨z1, z2⟩ := sizes he
    have CX := hid (fun w => rwithin_any a.x a.w x HO.out.x ⟨z1, HO.out.w.2⟩ hx w)
    have CY := hid (fun w => rwithin_any a.y a.h y HO.out.y ⟨z2, HO.out.h.2⟩ hy w)
    go_wp2_with fail
    refine (CX.out _).mono ?_
    rintro e w2 ⟨rfl, rfl⟩
    cases hx1 : wth a.x a.w x
    · go_wp2
      go_ret
      exact ⟨ret_bool (by simp [has, he, hx1]), hw⟩
    · go_wp2_with fail
      refine (CY.out _).mono ?_
      rintro e w2 ⟨rfl, rfl⟩
      go_wp2
      go_ret
      exact ⟨ret_bool (by simp [has, he, hx1]), hw⟩
  · go_wp2
    go_ret
    exact ⟨ret_bool (by simp [has, he]), hw⟩

set_option maxRecDepth 100000 in
theorem rshift_any (a : Rc) (x y : Int) (hx : emp a = false → -9223372036854775808 ≤ a.x + x ∧ a.x + x ≤ 9223372036854775807) (hy : emp a = false → -9223372036854775808 ≤ a.y + y ∧ a.y + y ≤ 9223372036854775807) (w : World) :
    Calls Try.prog 34 #[.agg #[.int .i64 a.x, .int .i64 a.y, .int .i64 a.w, .int .i64 a.h], .int .i64 x, .int .i64 y] w fun e w' => e = .returned (.agg #[.int .i64 (sh a x y).x, .int .i64 (sh a x y).y, .int .i64 (sh a x y).w, .int .i64 (sh a x y).h]) ∧ Below w.heap.size w w' := by
  cases he : emp a
  · have CE := hid (fun w => rempty_any a w)
    rw [he] at CE
    rw [sh_full he]
    have hx := hx he
    have hy := hy he
    go_enter Try.func34, Try.ntmps34
    go_wp2_with fail
    refine (CE.out _).mono ?_
    rintro e w1 ⟨rfl, hb1⟩
    obtain ⟨hA, hB, hw⟩ := box2 a rz hb1
    obtain ⟨c0, c1, c2, c3⟩ := hA.all
    obtain ⟨d0, d1, d2, d3⟩ := hB.all
    have fz := hB.fz
    have HB := hid hB
    have HW := hid hw
    clear hA hB hb1 hw
    go_wp2
    refine bodyPost_ret (results_cell_row rfl _ _ (w.heap.size + 1) _ _ _ _ rfl (HB.out.st ⟨a.x + x, a.y + y, a.w, a.h⟩).obj Try.underlying36 rfl infoR) rfl ?_
    exact ⟨rfl, below_st HW.out (by omega) ⟨a.x + x, a.y + y, a.w, a.h⟩⟩
  · have CE := hid (fun w => rempty_any a w)
    rw [he] at CE
    rw [sh_emp he]
    clear hx hy
    go_enter Try.func34, Try.ntmps34
    go_wp2_with fail
    refine (CE.out _).mono ?_
    rintro e w1 ⟨rfl, hb1⟩
    obtain ⟨hA, hB, hw⟩ := box2 a rz hb1
    obtain ⟨d0, d1, d2, d3⟩ := hB.all
    have fz := hB.fz
    have HB := hid hB
    have HW := hid hw
    clear hA hB hb1 hw
    go_wp2
    refine bodyPost_ret (results_cell_row rfl _ _ (w.heap.size + 1) _ _ _ _ rfl (HB.out.st rz).obj Try.underlying36 rfl infoR) rfl ?_
    exact ⟨rfl, below_st HW.out (by omega) rz⟩

set_option maxRecDepth 100000 in
theorem rof_any (x0 y0 x1 y1 : Int) (hx : ¬ x1 ≤ x0 → -9223372036854775808 ≤ x1 - x0 ∧ x1 - x0 ≤ 9223372036854775807) (hy : ¬ y1 ≤ y0 → -9223372036854775808 ≤ y1 - y0 ∧ y1 - y0 ≤ 9223372036854775807) (w : World) :
    Calls Try.prog 49 #[.int .i64 x0, .int .i64 y0, .int .i64 x1, .int .i64 y1] w fun e w' => e = .returned (.agg #[.int .i64 (oft x0 y0 x1 y1).x, .int .i64 (oft x0 y0 x1 y1).y, .int .i64 (oft x0 y0 x1 y1).w, .int .i64 (oft x0 y0 x1 y1).h]) ∧ Below w.heap.size w w' := by
  have HB := hid (bx_new w rz)
  have HW := hid (below_new w (.cells #[.int .i64 0, .int .i64 0, .int .i64 0, .int .i64 0] 36))
  by_cases h1 : x1 ≤ x0
  · have e1 : decide (x1 ≤ x0) = true := decide_eq_true h1
    rw [oft_left h1]
    clear hx hy
    go_enter Try.func49, Try.ntmps49
    go_wp2
    refine bodyPost_ret (results_cell_row rfl _ _ w.heap.size _ _ _ _ rfl (heap_alloc_new w _) Try.underlying36 rfl infoR) rfl ?_
    exact ⟨rfl, below_new w _⟩
  · have e1 : decide (x1 ≤ x0) = false := decide_eq_false h1
    by_cases h2 : y1 ≤ y0
    · have e2 : decide (y1 ≤ y0) = true := decide_eq_true h2
      rw [oft_top h2]
      clear hx hy
      go_enter Try.func49, Try.ntmps49
      go_wp2
      refine bodyPost_ret (results_cell_row rfl _ _ w.heap.size _ _ _ _ rfl (heap_alloc_new w _) Try.underlying36 rfl infoR) rfl ?_
      exact ⟨rfl, below_new w _⟩
    · have e2 : decide (y1 ≤ y0) = false := decide_eq_false h2
      rw [oft_full h1 h2]
      have g1 := hx h1
      have g2 := hy h2
      clear hx hy
      go_enter Try.func49, Try.ntmps49
      go_wp2
      refine bodyPost_ret (results_cell_row rfl _ _ w.heap.size _ _ _ _ rfl (heap_alloc_new w _) Try.underlying36 rfl infoR) rfl ?_
      exact ⟨rfl, below_new w _⟩
end Go.Proofs.Ytlkodgmnhphfcaa
