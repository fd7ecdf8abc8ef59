/- The document's own Cut, Cover, Bound; may, awake. -/
import Derived.Test.YtlkodgmnhphfcaaRectE
import Derived.Test.YtlkodgmnhphfcaaRectF
namespace Go.Proofs.Ytlkodgmnhphfcaa
open Go Go.RowKit

/-- A rectangle that may be and has points. -/
structure Ck (a : Rc) : Prop where
  w : 1 ≤ a.w
  h : 1 ≤ a.h
  x : -16777216 ≤ a.x
  y : -16777216 ≤ a.y
  r : a.x + a.w ≤ 16777216
  b : a.y + a.h ≤ 16777216

theorem dck_iff {a : Rc} : dck a = true ↔ Ck a := by
  simp only [dck, inn, emp, Bool.and_eq_true, Bool.not_eq_true', Bool.or_eq_false_iff, decide_eq_true_eq, decide_eq_false_iff_not]
  exact ⟨fun ⟨⟨⟨⟨⟨h1, h2⟩, h3, h4⟩, h5, h6⟩, h7⟩, h8⟩ => ⟨by omega, by omega, h3, h5, by omega, by omega⟩, fun ⟨h1, h2, h3, h4, h5, h6⟩ => ⟨⟨⟨⟨⟨by omega, by omega⟩, h3, by omega⟩, h4, by omega⟩, by omega⟩, by omega⟩⟩
theorem Ck.emp {a : Rc} (h : Ck a) : emp a = false := by
  have h1 := h.w
  have h2 := h.h
  simp [Go.Proofs.Ytlkodgmnhphfcaa.emp]
  omega
theorem Ck.ok {a : Rc} (h : Ck a) : a.Ok := by
  obtain ⟨h1, h2, h3, h4, h5, h6⟩ := h
  exact ⟨by omega, by omega, by omega, by omega⟩
theorem Ck.enx {a : Rc} (h : Ck a) : en a.x a.w = a.x + a.w := by
  have := h.r
  rw [en, if_pos (by omega)]
theorem Ck.eny {a : Rc} (h : Ck a) : en a.y a.h = a.y + a.h := by
  have := h.b
  rw [en, if_pos (by omega)]

/-- What is asked of: a rectangle that may be, or an empty one. -/
def may (a : Rc) : Bool := dck a || emp a
theorem may_cases {a : Rc} (h : may a = true) : emp a = true ∨ Ck a := by
  simp only [may, Bool.or_eq_true] at h
  rcases h with h | h
  · exact .inr (dck_iff.1 h)
  · exact .inl h

/-- Numbers that are not great, and points. -/
structure Cw (a : Rc) : Prop where
  w : 1 ≤ a.w
  h : 1 ≤ a.h
  x : -1099511627776 ≤ a.x ∧ a.x ≤ 1099511627776
  y : -1099511627776 ≤ a.y ∧ a.y ≤ 1099511627776
  w' : a.w ≤ 1099511627776
  h' : a.h ≤ 1099511627776
theorem Ck.cw {a : Rc} (h : Ck a) : Cw a := by
  obtain ⟨h1, h2, h3, h4, h5, h6⟩ := h
  exact ⟨by omega, by omega, by omega, by omega, by omega, by omega⟩
theorem Cw.enx {a : Rc} (h : Cw a) : en a.x a.w = a.x + a.w := by
  have := h.x
  have := h.w'
  rw [en, if_pos (by omega)]
theorem Cw.eny {a : Rc} (h : Cw a) : en a.y a.h = a.y + a.h := by
  have := h.y
  have := h.h'
  rw [en, if_pos (by omega)]

set_option maxRecDepth 100000 in
set_option maxHeartbeats 1000000 in
theorem rcutw_any (a b : Rc) (ha : emp a = false → Cw a) (hb : emp b = false → Cw b) (w : World) : Calls Try.prog 33 #[.agg #[.int .i64 a.x, .int .i64 a.y, .int .i64 a.w, .int .i64 a.h], .agg #[.int .i64 b.x, .int .i64 b.y, .int .i64 b.w, .int .i64 b.h]] w fun e w' => e = .returned (.agg #[.int .i64 (cut a b).x, .int .i64 (cut a b).y, .int .i64 (cut a b).w, .int .i64 (cut a b).h]) ∧ Below w.heap.size w w' := by
  have CE := hid (fun w => rempty_any a w)
  have CF := hid (fun w => rempty_any b w)
  cases he : emp a
  · have ka := ha he
    cases hf : emp b
    · have kb := hb hf
      rw [he] at CE
      rw [hf] at CF
      rw [cut_full he hf, ka.enx, ka.eny, kb.enx, kb.eny]
      obtain ⟨k1, k2, k3, k4, k5, k6⟩ := ka
      obtain ⟨l1, l2, l3, l4, l5, l6⟩ := kb
      have CO := hid (fun w => rof_any (max a.x b.x) (max a.y b.y) (min (a.x + a.w) (b.x + b.w)) (min (a.y + a.h) (b.y + b.h)) (by omega) (by omega) w)
      clear ha hb he hf
      go_enter Try.func33, Try.ntmps33
      go_wp2_with fail
      refine (CE.out _).mono ?_
      rintro e w1 ⟨rfl, hb1⟩
      obtain ⟨hA, hB, hR, hw⟩ := box3 a b rz hb1
      obtain ⟨c0, c1, c2, c3⟩ := hB.all
      clear hb1
      go_wp2_with fail
      refine (CF.out _).mono ?_
      rintro e w2 ⟨rfl, hb2⟩
      clear c0 c1 c2 c3
      obtain ⟨c0, c1, c2, c3⟩ := (hA.on hb2).all
      obtain ⟨d0, d1, d2, d3⟩ := (hB.on hb2).all
      have HR := hid (hR.on hb2)
      have HW := hid (Below.on hw hb2)
      clear hA hB hR hw hb2 CE CF
      go_wp2_with fail
      refine (CO.out _).mono ?_
      rintro e w3 ⟨rfl, hb3⟩
      have HR2 := hid (HR.out.on hb3)
      have HW2 := hid (Below.on HW.out hb3)
      clear c0 c1 c2 c3 d0 d1 d2 d3 HR HW hb3 CO
      obtain ⟨d0, d1, d2, d3⟩ := HR2.out.all
      have fz := HR2.out.fz
      go_wp2
      refine bodyPost_ret (results_cell_row rfl _ _ (w.heap.size + 1 + 1) _ _ _ _ rfl (HR2.out.st (oft _ _ _ _)).obj Try.underlying36 rfl infoR) rfl ?_
      exact ⟨rfl, below_st HW2.out (by omega) (oft _ _ _ _)⟩
    · rw [he] at CE
      rw [hf] at CF
      rw [cut_emp2 a hf]
      clear ha hb he hf ka
      go_enter Try.func33, Try.ntmps33
      go_wp2_with fail
      refine (CE.out _).mono ?_
      rintro e w1 ⟨rfl, hb1⟩
      obtain ⟨_, hB, hR, hw⟩ := box3 a b rz hb1
      obtain ⟨c0, c1, c2, c3⟩ := hB.all
      clear hb1
      go_wp2_with fail
      refine (CF.out _).mono ?_
      rintro e w2 ⟨rfl, hb2⟩
      have HR2 := hid (hR.on hb2)
      have HW2 := hid (Below.on hw hb2)
      clear c0 c1 c2 c3 hB hR hw hb2 CE CF
      obtain ⟨d0, d1, d2, d3⟩ := HR2.out.all
      have fz := HR2.out.fz
      go_wp2
      refine bodyPost_ret (results_cell_row rfl _ _ (w.heap.size + 1 + 1) _ _ _ _ rfl (HR2.out.st rz).obj Try.underlying36 rfl infoR) rfl ?_
      exact ⟨rfl, below_st HW2.out (by omega) rz⟩
  · rw [he] at CE
    rw [cut_emp1 he]
    clear ha hb he CF
    go_enter Try.func33, Try.ntmps33
    go_wp2_with fail
    refine (CE.out _).mono ?_
    rintro e w1 ⟨rfl, hb1⟩
    obtain ⟨_, _, hR, hw⟩ := box3 a b rz hb1
    have HR2 := hid hR
    have HW2 := hid hw
    clear hR hw CE hb1
    obtain ⟨d0, d1, d2, d3⟩ := HR2.out.all
    have fz := HR2.out.fz
    go_wp2
    refine bodyPost_ret (results_cell_row rfl _ _ (w.heap.size + 1 + 1) _ _ _ _ rfl (HR2.out.st rz).obj Try.underlying36 rfl infoR) rfl ?_
    exact ⟨rfl, below_st HW2.out (by omega) rz⟩
theorem rcut_any (a b : Rc) (ha : may a = true) (hb : may b = true) (w : World) : Calls Try.prog 33 #[.agg #[.int .i64 a.x, .int .i64 a.y, .int .i64 a.w, .int .i64 a.h], .agg #[.int .i64 b.x, .int .i64 b.y, .int .i64 b.w, .int .i64 b.h]] w fun e w' => e = .returned (.agg #[.int .i64 (cut a b).x, .int .i64 (cut a b).y, .int .i64 (cut a b).w, .int .i64 (cut a b).h]) ∧ Below w.heap.size w w' :=
  rcutw_any a b (fun h => ((may_cases ha).resolve_left (by rw [h]; decide)).cw) (fun h => ((may_cases hb).resolve_left (by rw [h]; decide)).cw) w

theorem oft_cvr {a b : Rc} (ka : Ck a) (kb : Ck b) : oft (min a.x b.x) (min a.y b.y) (max (a.x + a.w) (b.x + b.w)) (max (a.y + a.h) (b.y + b.h)) = cvr a b := by
  rw [cvr, ka.enx, ka.eny, kb.enx, kb.eny]
  obtain ⟨k1, k2, k3, k4, k5, k6⟩ := ka
  obtain ⟨l1, l2, l3, l4, l5, l6⟩ := kb
  rw [oft_full (by omega) (by omega)]

set_option maxRecDepth 100000 in
set_option maxHeartbeats 1000000 in
theorem rcover_any (a b : Rc) (ha : may a = true) (hb : may b = true) (w : World) : Calls Try.prog 58 #[.agg #[.int .i64 a.x, .int .i64 a.y, .int .i64 a.w, .int .i64 a.h], .agg #[.int .i64 b.x, .int .i64 b.y, .int .i64 b.w, .int .i64 b.h]] w fun e w' => e = .returned (.agg #[.int .i64 (cov a b).x, .int .i64 (cov a b).y, .int .i64 (cov a b).w, .int .i64 (cov a b).h]) ∧ Below w.heap.size w w' := by
  have CE := hid (fun w => rempty_any a w)
  have CF := hid (fun w => rempty_any b w)
  cases he : emp a
  · rw [he] at CE
    cases hf : emp b
    · have ka := (may_cases ha).resolve_left (by rw [he]; decide)
      have kb := (may_cases hb).resolve_left (by rw [hf]; decide)
      rw [hf] at CF
      rw [cov_full he hf]
      have HC := hid (oft_cvr ka kb)
      rw [← HC.out]
      obtain ⟨k1, k2, k3, k4, k5, k6⟩ := ka
      obtain ⟨l1, l2, l3, l4, l5, l6⟩ := kb
      have CO := hid (fun w => rof_any (min a.x b.x) (min a.y b.y) (max (a.x + a.w) (b.x + b.w)) (max (a.y + a.h) (b.y + b.h)) (by omega) (by omega) w)
      clear ha hb he hf HC
      go_enter Try.func58, Try.ntmps58
      go_wp2_with fail
      refine (CE.out _).mono ?_
      rintro e w1 ⟨rfl, hb1⟩
      obtain ⟨hA, hB, hR, hw⟩ := box3 a b rz hb1
      obtain ⟨c0, c1, c2, c3⟩ := hA.all
      clear hb1
      go_wp2_with fail
      refine (CE.out _).mono ?_
      rintro e w2 ⟨rfl, hb2⟩
      clear c0 c1 c2 c3
      replace hA := hA.on hb2
      replace hB := hB.on hb2
      replace hR := hR.on hb2
      replace hw := Below.on hw hb2
      obtain ⟨c0, c1, c2, c3⟩ := hB.all
      clear hb2
      go_wp2_with fail
      refine (CF.out _).mono ?_
      rintro e w3 ⟨rfl, hb2⟩
      clear c0 c1 c2 c3
      obtain ⟨c0, c1, c2, c3⟩ := (hA.on hb2).all
      obtain ⟨d0, d1, d2, d3⟩ := (hB.on hb2).all
      have HR := hid (hR.on hb2)
      have HW := hid (Below.on hw hb2)
      clear hA hB hR hw hb2 CE CF
      go_wp2_with fail
      refine (CO.out _).mono ?_
      rintro e w4 ⟨rfl, hb3⟩
      have HR2 := hid (HR.out.on hb3)
      have HW2 := hid (Below.on HW.out hb3)
      clear c0 c1 c2 c3 d0 d1 d2 d3 HR HW hb3 CO
      obtain ⟨d0, d1, d2, d3⟩ := HR2.out.all
      have fz := HR2.out.fz
      go_wp2
      refine bodyPost_ret (results_cell_row rfl _ _ (w.heap.size + 1 + 1) _ _ _ _ rfl (HR2.out.st (oft _ _ _ _)).obj Try.underlying36 rfl infoR) rfl ?_
      exact ⟨rfl, below_st HW2.out (by omega) (oft _ _ _ _)⟩
    · rw [hf] at CF
      rw [cov_emp2 he hf]
      clear ha hb he hf
      go_enter Try.func58, Try.ntmps58
      go_wp2_with fail
      refine (CE.out _).mono ?_
      rintro e w1 ⟨rfl, hb1⟩
      obtain ⟨hA, hB, hR, hw⟩ := box3 a b rz hb1
      obtain ⟨c0, c1, c2, c3⟩ := hA.all
      clear hb1
      go_wp2_with fail
      refine (CE.out _).mono ?_
      rintro e w2 ⟨rfl, hb2⟩
      clear c0 c1 c2 c3
      replace hA := hA.on hb2
      replace hB := hB.on hb2
      replace hR := hR.on hb2
      replace hw := Below.on hw hb2
      obtain ⟨c0, c1, c2, c3⟩ := hB.all
      clear hb2
      go_wp2_with fail
      refine (CF.out _).mono ?_
      rintro e w3 ⟨rfl, hb2⟩
      clear c0 c1 c2 c3
      obtain ⟨c0, c1, c2, c3⟩ := (hA.on hb2).all
      have HR2 := hid (hR.on hb2)
      have HW2 := hid (Below.on hw hb2)
      clear hA hB hR hw hb2 CE CF
      obtain ⟨d0, d1, d2, d3⟩ := HR2.out.all
      have fz := HR2.out.fz
      go_wp2
      refine bodyPost_ret (results_cell_row rfl _ _ (w.heap.size + 1 + 1) _ _ _ _ rfl (HR2.out.st a).obj Try.underlying36 rfl infoR) rfl ?_
      exact ⟨rfl, below_st HW2.out (by omega) a⟩
  · rw [he] at CE
    rw [cov_emp1 he]
    cases hf : emp b
    · rw [hf] at CF
      rw [pln_full hf]
      clear ha hb he hf
      go_enter Try.func58, Try.ntmps58
      go_wp2_with fail
      refine (CE.out _).mono ?_
      rintro e w1 ⟨rfl, hb1⟩
      obtain ⟨hA, hB, hR, hw⟩ := box3 a b rz hb1
      obtain ⟨c0, c1, c2, c3⟩ := hB.all
      clear hb1
      go_wp2_with fail
      refine (CF.out _).mono ?_
      rintro e w2 ⟨rfl, hb2⟩
      clear c0 c1 c2 c3
      replace hA := hA.on hb2
      replace hB := hB.on hb2
      replace hR := hR.on hb2
      replace hw := Below.on hw hb2
      obtain ⟨c0, c1, c2, c3⟩ := hA.all
      clear hb2
      go_wp2_with fail
      refine (CE.out _).mono ?_
      rintro e w3 ⟨rfl, hb2⟩
      clear c0 c1 c2 c3
      obtain ⟨c0, c1, c2, c3⟩ := (hB.on hb2).all
      have HR2 := hid (hR.on hb2)
      have HW2 := hid (Below.on hw hb2)
      clear hA hB hR hw hb2 CE CF
      obtain ⟨d0, d1, d2, d3⟩ := HR2.out.all
      have fz := HR2.out.fz
      go_wp2
      refine bodyPost_ret (results_cell_row rfl _ _ (w.heap.size + 1 + 1) _ _ _ _ rfl (HR2.out.st b).obj Try.underlying36 rfl infoR) rfl ?_
      exact ⟨rfl, below_st HW2.out (by omega) b⟩
    · rw [hf] at CF
      rw [pln_emp hf]
      clear ha hb he hf
      go_enter Try.func58, Try.ntmps58
      go_wp2_with fail
      refine (CE.out _).mono ?_
      rintro e w1 ⟨rfl, hb1⟩
      obtain ⟨hA, hB, hR, hw⟩ := box3 a b rz hb1
      obtain ⟨c0, c1, c2, c3⟩ := hB.all
      clear hb1
      go_wp2_with fail
      refine (CF.out _).mono ?_
      rintro e w2 ⟨rfl, hb2⟩
      have HR2 := hid (hR.on hb2)
      have HW2 := hid (Below.on hw hb2)
      clear c0 c1 c2 c3 hA hB hR hw hb2 CE CF
      obtain ⟨d0, d1, d2, d3⟩ := HR2.out.all
      have fz := HR2.out.fz
      go_wp2
      refine bodyPost_ret (results_cell_row rfl _ _ (w.heap.size + 1 + 1) _ _ _ _ rfl (HR2.out.st rz).obj Try.underlying36 rfl infoR) rfl ?_
      exact ⟨rfl, below_st HW2.out (by omega) rz⟩
end Go.Proofs.Ytlkodgmnhphfcaa
