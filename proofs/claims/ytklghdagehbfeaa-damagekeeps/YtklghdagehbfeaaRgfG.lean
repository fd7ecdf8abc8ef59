/- few, made, awake. -/
import Derived.Test.YtklghdagehbfeaaRgfF
namespace Go.Proofs.Ytklghdagehbfeaa
open Go Go.RowKit

/-- A list by its places. -/
def gl (l : List Rc) (j : Nat) : Rc := (l[j]?).getD rz



theorem rdc_lit (w : World) (r : Rc) (ok : r.Ok) : RdC (w.alloc (.cells #[.int .i64 r.x, .int .i64 r.y, .int .i64 r.w, .int .i64 r.h] 24)) (some ⟨w.heap.size, 0, none⟩) 1 1 [r] := by
  refine ⟨rfl, Nat.le_refl _, by decide, (fun h => by cases h), fun _ => ⟨w.heap.size, 0, rfl, by simp, fun j x hx => ?_⟩, fun x hx => ?_⟩
  · cases j with
    | zero =>
      simp only [List.getElem?_cons_zero, Option.some.injEq] at hx
      subst hx
      have := bx_new w r
      obtain ⟨h0, h1, h2, h3⟩ := this.all
      exact ⟨by simp, h0, h1, h2, h3⟩
    | succ j => simp at hx
  · simp only [List.mem_singleton] at hx
    rw [hx]
    exact ok

theorem ex_union : unn or [⟨0, 0, 2, 2⟩] [⟨2, 0, 2, 2⟩] = [⟨0, 0, 4, 2⟩] := by
  have k1 : Ck ⟨0, 0, 2, 2⟩ := ⟨by decide, by decide, by decide, by decide, by decide, by decide⟩
  have k2 : Ck ⟨2, 0, 2, 2⟩ := ⟨by decide, by decide, by decide, by decide, by decide, by decide⟩
  have k3 : Ck ⟨0, 0, 4, 2⟩ := ⟨by decide, by decide, by decide, by decide, by decide, by decide⟩
  rw [unn_reg (reg_one k1) (reg_one k2)]
  obtain ⟨h1, h2, _⟩ := mk_all (f := or) rfl (reg_one k1).ck (reg_one k2).ck
  refine reg_eq h1 (reg_one k3) fun x y => ?_
  rw [h2, Bool.eq_iff_iff, Bool.or_eq_true, pt_iff, pt_iff, pt_iff]
  simp only [List.mem_singleton, exists_eq_left, has_iff]
  omega
theorem ex_rgn : rgn [⟨0, 0, 4, 2⟩] = true := rgn_iff.2 (reg_one ⟨by decide, by decide, by decide, by decide, by decide, by decide⟩)

end Go.Proofs.Ytklghdagehbfeaa
