/- The document's own Check, Has, of, Cut, Cover, Shift, Bound. -/
import Derived.Test.YtegmolmjoiklpaaRectD
namespace Go.Proofs.Ytegmolmjoiklpaa
open Go Go.RowKit

def inn (v : Int) : Bool := decide (-16777216 ≤ v) && decide (v ≤ 16777216)
/-- The document's Check. -/
def dck (a : Rc) : Bool := !emp a && inn a.x && inn a.y && decide (a.w ≤ 16777216 - a.x) && decide (a.h ≤ 16777216 - a.y)

theorem inn_iff {v : Int} : inn v = true ↔ -16777216 ≤ v ∧ v ≤ 16777216 := by simp [inn]


set_option maxRecDepth 100000 in
theorem rhas_any (a : Rc) (ok : a.Ok) (x y : Int) (hx : -9223372036854775808 ≤ x ∧ x ≤ 9223372036854775807) (hy : -9223372036854775808 ≤ y ∧ y ≤ 9223372036854775807) (w : World) :
    Calls Try.prog 29 #[.agg #[.int .i64 a.x, .int .i64 a.y, .int .i64 a.w, .int .i64 a.h], .int .i64 x, .int .i64 y] w fun e w' => e = .returned (.bool (has a x y)) ∧ Below w.heap.size w w' := by
  have CE := hid (fun w => rempty_any a w)
  have HO := hid ok
  clear ok
  go_enter Try.func29, Try.ntmps29
  go_wp2_with fail
  refine (CE.out _).mono ?_
  rintro e w1 ⟨rfl, hb1⟩
  obtain ⟨hA, hw⟩ := box1 a hb1
  obtain ⟨c0, c1, c2, c3⟩ := hA.all
  cases he : emp a
  · obtain ⟨z1, z2⟩ := sizes he
    have CX := hid (fun w => rwithin_any a.x a.w x HO.out.x ⟨z1, HO.out.w.2⟩ hx w)
    have CY := hid (fun w => rwithin_any a.y a.h y HO.out.y ⟨z2, HO.out.h.2⟩ hy w)
    go_wp2_with fail
    refine (CX.out _).mono ?_
    rintro e w2 ⟨rfl, rfl⟩
    cases hx1 : wth a.x a.w x
    · go_wp2
      go_ret
      exact ⟨ret_bool (by simp [has, he, hx1]), hw⟩
    · go_wp2_with fail
      refine (CY.out _).mono ?_
      rintro e w2 ⟨rfl, rfl⟩
      go_wp2
      go_ret
      exact ⟨ret_bool (by simp [has, he, hx1]), hw⟩
  · go_wp2
    go_ret
    exact ⟨ret_bool (by simp [has, he]), hw⟩


end Go.Proofs.Ytegmolmjoiklpaa
