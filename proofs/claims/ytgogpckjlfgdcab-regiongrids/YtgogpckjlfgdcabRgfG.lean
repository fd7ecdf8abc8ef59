/- few, made, awake. -/
import Derived.Test.YtgogpckjlfgdcabRgfF
namespace Go.Proofs.Ytgogpckjlfgdcab
open Go Go.RowKit

/-- A list by its places. -/
def gl (l : List Rc) (j : Nat) : Rc := (l[j]?).getD rz



theorem rdc_lit (w : World) (r : Rc) (ok : r.Ok) : RdC (w.alloc (.cells #[.int .i64 r.x, .int .i64 r.y, .int .i64 r.w, .int .i64 r.h] 26)) (some ⟨w.heap.size, 0, none⟩) 1 1 [r] := by
  refine ⟨rfl, Nat.le_refl _, by decide, (fun h => by cases h), fun _ => ⟨w.heap.size, 0, rfl, by simp, fun j x hx => ?_⟩, fun x hx => ?_⟩
  · cases j with
    | zero =>
      simp only [List.getElem?_cons_zero, Option.some.injEq] at hx
      subst hx
      have := bx_new w r
      obtain ⟨h0, h1, h2, h3⟩ := this.all
      exact ⟨by simp, h0, h1, h2, h3⟩
    | succ j => simp at hx
  · simp only [List.mem_singleton] at hx
    rw [hx]
    exact ok

theorem ex_union : unn or [⟨0, 0, 2, 2⟩] [⟨2, 0, 2, 2⟩] = [⟨0, 0, 4, 2⟩] := by
  have k1 : Ck ⟨0, 0, 2, 2⟩ := ⟨by decide, by decide, by decide, by decide, by decide, by decide⟩
  have k2 : Ck ⟨2, 0, 2, 2⟩ := ⟨by decide, by decide, by decide, by decide, by decide, by decide⟩
  have k3 : Ck ⟨0, 0, 4, 2⟩ := ⟨by decide, by decide, by decide, by decide, by decide, by decide⟩
  rw [unn_reg (reg_one k1) (reg_one k2)]
  obtain ⟨h1, h2, _⟩ := mk_all (f := or) rfl (reg_one k1).ck (reg_one k2).ck
  refine reg_eq h1 (reg_one k3) fun x y => ?_
  rw [h2, Bool.eq_iff_iff, Bool.or_eq_true, pt_iff, pt_iff, pt_iff]
  simp only [List.mem_singleton, exists_eq_left, has_iff]
  omega
theorem ex_rgn : rgn [⟨0, 0, 4, 2⟩] = true := rgn_iff.2 (reg_one ⟨by decide, by decide, by decide, by decide, by decide, by decide⟩)

set_option maxRecDepth 100000 in
set_option maxHeartbeats 1000000 in
theorem awake_any (w : World) : Calls Try.prog 11 #[] w fun e w' => e = .returned (.bool true) ∧ Below w.heap.size w w' := by
  have r1 := rdc_lit w ⟨0, 0, 2, 2⟩ ⟨by decide, by decide, by decide, by decide⟩
  have r2 := rdc_lit (w.alloc (.cells #[.int .i64 0, .int .i64 0, .int .i64 2, .int .i64 2] 26)) ⟨2, 0, 2, 2⟩ ⟨by decide, by decide, by decide, by decide⟩
  rw [World.size_alloc] at r2
  have CU := hid (union_any (some ⟨w.heap.size, 0, none⟩) (some ⟨w.heap.size + 1, 0, none⟩) 1 1 1 1 [⟨0, 0, 2, 2⟩] [⟨2, 0, 2, 2⟩] _ (r1.on (below_new _ (.cells #[.int .i64 2, .int .i64 0, .int .i64 2, .int .i64 2] 26))) r2 (by decide))
  rw [ex_union] at CU
  have HB0 := hid (below_two w (.cells #[.int .i64 0, .int .i64 0, .int .i64 2, .int .i64 2] 26) (.cells #[.int .i64 2, .int .i64 0, .int .i64 2, .int .i64 2] 26))
  have hg := eqlR_guard
  have q := eqlR ⟨0, 0, 4, 2⟩ ⟨0, 0, 4, 2⟩
  rw [rceq_same] at q
  dsimp only at q
  clear r1 r2
  go_enter Try.func11, Try.ntmps11
  go_wp2_with fail
  refine CU.out.mono ?_
  rintro e w1 ⟨a1, c1, rfl, h1, hb1⟩
  have HB1 := hid (Below.on HB0.out hb1)
  obtain ⟨b, off, rfl, _, hel⟩ := h1.pl (by decide)
  obtain ⟨_, d0, d1, d2, d3⟩ := hel 0 ⟨0, 0, 4, 2⟩ rfl
  simp only [Nat.zero_mul, Nat.add_zero] at d0 d1 d2 d3
  have CH := hid (fun u hu => reghas_any (some ⟨b, off, none⟩) 1 c1 [⟨0, 0, 4, 2⟩] 3 1 (by decide) (by decide) u hu)
  have CA := hid (fun u hu => area_any (some ⟨b, off, none⟩) 1 c1 [⟨0, 0, 4, 2⟩] u hu (by decide))
  rw [ex_rgn, show (true && pt [⟨0, 0, 4, 2⟩] 3 1) = true by decide] at CH
  rw [if_pos ex_rgn, show area [⟨0, 0, 4, 2⟩] = 8 by decide] at CA
  have H1 := hid h1
  clear h1 hb1 hel CU
  go_wp2_with fail
  refine (CH.out _ H1.out).mono ?_
  rintro e w2 ⟨rfl, hb2⟩
  have HB2 := hid (Below.on HB1.out hb2)
  go_wp2_with fail
  refine (CA.out _ (H1.out.on hb2)).mono ?_
  rintro e w3 ⟨rfl, hb3⟩
  have HB3 := hid (Below.on HB2.out hb3)
  clear hb2 hb3
  go_wp2
  go_ret
  exact ⟨rfl, HB3.out⟩
end Go.Proofs.Ytgogpckjlfgdcab
