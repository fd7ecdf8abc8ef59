/- Points asked, a literal's row, awake of law 14. -/
import Derived.Test.YtldnggokkkhihaaDoorCanE
namespace Go.Proofs.YtldnggokkkhihaaDoor
open Go Go.RowKit

variable {w w' x y : World} {p b W H : Nat} {L : List Int}

theorem rdc_lit (w : World) (r : Rc) (ok : r.Ok) : RdC (w.alloc (.cells #[.int .i64 r.x, .int .i64 r.y, .int .i64 r.w, .int .i64 r.h] 44)) (some ⟨w.heap.size, 0, none⟩) 1 1 [r] := by
  refine ⟨rfl, Nat.le_refl _, by decide, (fun h => by cases h), fun _ => ⟨w.heap.size, 0, rfl, by simp, fun j x hx => ?_⟩, fun x hx => ?_⟩
  · cases j with
    | zero =>
      simp only [List.getElem?_cons_zero, Option.some.injEq] at hx
      subst hx
      have := bx_new w r
      obtain ⟨h0, h1, h2, h3⟩ := this.all
      exact ⟨by simp, h0, h1, h2, h3⟩
    | succ j => simp at hx
  · simp only [List.mem_singleton] at hx
    rw [hx]
    exact ok

theorem bel_kp {B : Nat} {X : List Nat} (h : Below B w x) (hk : Kp X x y) (hB : B ≤ x.heap.size) (hX : ∀ k ∈ X, B ≤ k) : Below B w y := h.trans (hk.below hB hX)

theorem atv_at {i j : Nat} {z : Int} (hi : i < W) (hj : j < H) (hz : L[j * W + i]? = some z) : atv W H L i j = z := by
  rw [atv, has_ara (by omega) (by omega)]
  have e1 : decide ((0 : Int) ≤ (i : Nat)) = true := decide_eq_true (by omega)
  have e2 : decide (((i : Nat) : Int) < W) = true := decide_eq_true (by omega)
  have e3 : decide ((0 : Int) ≤ (j : Nat)) = true := decide_eq_true (by omega)
  have e4 : decide (((j : Nat) : Int) < H) = true := decide_eq_true (by omega)
  rw [e1, e2, e3, e4]
  simp [List.getD, hz]
theorem atv_no {i j : Int} (hW : 1 ≤ W) (hH : 1 ≤ H) (h : i < 0 ∨ W ≤ i ∨ j < 0 ∨ H ≤ j) : atv W H L i j = 0 := by
  have : has (ara W H) i j = false := by
    rw [has_ara hW hH, Bool.eq_false_iff]
    simp only [ne_eq, Bool.and_eq_true, decide_eq_true_eq]
    omega
  rw [atv, this]
  rfl
theorem fll_get {v : Int} {l : List Rc} {i j : Nat} (hi : i < W) : (fll W v l L)[j * W + i]? = L[j * W + i]?.map fun z => if inC l i j then v else z := trn_get hi
theorem fll_length (v : Int) (l : List Rc) : (fll W v l L).length = L.length := trn_length
theorem inC_one {r : Rc} (hk : Ck r) (i j : Int) : inC [r] i j = has r i j := by
  simp only [inC, List.any_cons, List.any_nil, Bool.or_false]
  rw [bnd_ck hk]

set_option maxRecDepth 100000 in
set_option maxHeartbeats 2000000 in
theorem awake_any (w : World) : Calls Tryd.prog 9 #[] w fun e w' => e = .returned (.bool true) ∧ Below w.heap.size w w' := by
  have CN : Hid (Calls Tryd.prog 7 #[.int .i64 2, .int .i64 2] w (Own 55 w 2 2 [0, 0, 0, 0] fun v => .tuple #[v, .nilIface])) := cnew_any w 2 2 (by omega) (by omega)
  have ok : (Rc.mk 0 0 1 5).Ok := ⟨by decide, by decide, by decide, by decide⟩
  have HF : Hid (fll 2 7 [⟨0, 0, 1, 5⟩] [0, 0, 0, 0] = [7, 0, 7, 0]) := by rw [Hid]; decide
  go_enter Tryd.func9, Tryd.ntmps9
  go_wp2_with fail
  refine CN.out.mono ?_
  rintro e w1 ⟨p, b, rfl, hb1, hC, hp, hq⟩
  have HC := hid hC
  have HB := hid hb1
  clear hC hb1 CN
  go_wp2_with fail
  have hb2 : Below w1.heap.size w1 (w1.alloc (.cells #[.int .i64 0, .int .i64 0, .int .i64 1, .int .i64 5] 44)) := below_new w1 _
  refine (cfill_any (HC.out.on hb2) 7 (by rw [Col]; decide) _ 1 1 [⟨0, 0, 1, 5⟩] (rdc_lit w1 ⟨0, 0, 1, 5⟩ ok) (by omega)).mono ?_
  rintro e w3 ⟨rfl, hC, hk⟩
  rw [HF.out] at hC
  have HC3 := hid hC
  have HB3 := hid (bel_kp (Below.on HB.out hb2) hk (Below.on HB.out hb2).size (fun k hk => by simp only [List.mem_cons, List.not_mem_nil, or_false] at hk; omega))
  clear hb2 hC hk HC HB
  go_wp2_with fail
  refine (at_any HC3.out 0 1 (by rw [I64]; decide) (by rw [I64]; decide)).mono ?_
  rintro e w4 ⟨rfl, hb4⟩
  rw [show atv 2 2 [7, 0, 7, 0] 0 1 = 7 by decide]
  have HC4 := hid (HC3.out.on hb4)
  have HB4 := hid (Below.on HB3.out hb4)
  clear hb4 HC3 HB3
  go_wp2_with fail
  refine (at_any HC4.out 1 1 (by rw [I64]; decide) (by rw [I64]; decide)).mono ?_
  rintro e w5 ⟨rfl, hb5⟩
  rw [show atv 2 2 [7, 0, 7, 0] 1 1 = 0 by decide]
  have HC5 := hid (HC4.out.on hb5)
  have HB5 := hid (Below.on HB4.out hb5)
  clear hb5 HC4 HB4
  go_wp2_with fail
  refine (at_any HC5.out 5 5 (by rw [I64]; decide) (by rw [I64]; decide)).mono ?_
  rintro e w6 ⟨rfl, hb6⟩
  rw [show atv 2 2 [7, 0, 7, 0] 5 5 = 0 by decide]
  have HB6 := hid (Below.on HB5.out hb6)
  clear hb6 HC5 HB5
  go_wp2
  go_ret
  exact ⟨rfl, HB6.out⟩
end Go.Proofs.YtldnggokkkhihaaDoor
