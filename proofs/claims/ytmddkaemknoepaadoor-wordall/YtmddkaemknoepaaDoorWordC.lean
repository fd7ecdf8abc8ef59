/- The law's own example holds: tableaulaw01.awake returns true in every world, and turns nothing that was there. -/
import Derived.Test.YtmddkaemknoepaaDoorWordB
namespace Go.Proofs.YtmddkaemknoepaaDoor
open Go Go.RowKit

set_option maxRecDepth 100000 in
theorem awake_any (w : World) :
    Calls Tryd.prog 8 #[] w fun e w' => e = .returned (.bool true) ∧ Below w.heap.size w w' := by
  have H : Hid (Calls Tryd.prog 11 #[.slice none 0 0, .string ⟨#[97, 98, 99]⟩] w fun e w' => ∃ a n c, e = .returned (.slice a n c) ∧ Rd w' a n c [4, 0, 0, 0, 97, 98, 99, 0] ∧ Below w.heap.size w w') := by
    refine (putText_any w none 0 0 [] (Rd.nil w) ⟨#[97, 98, 99]⟩ (by decide) (by decide)).mono ?_
    rintro e w' ⟨r, rfl, ho, hb⟩
    obtain ⟨a, c, rfl, hr, _⟩ := rd_of_owns ho
    exact ⟨a, _, c, rfl, hr, hb⟩
  go_enter Tryd.func8, Tryd.ntmps8
  go_wp2_with fail
  refine H.out.mono ?_
  rintro e w1 ⟨a, n, c, rfl, hr, hb1⟩
  have hcv := hr.conv 22 9 5 Tryd.underlying22 Tryd.underlying5 Tryd.underlying9
  clear H hr
  go_wp2
  go_ret
  exact ⟨rfl, hb1⟩
end Go.Proofs.YtmddkaemknoepaaDoor
