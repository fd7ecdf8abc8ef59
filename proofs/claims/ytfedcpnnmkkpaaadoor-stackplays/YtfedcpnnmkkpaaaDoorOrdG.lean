/- The document's orders: Top, Put. -/
import Derived.Test.YtfedcpnnmkkpaaaDoorOrdF
namespace Go.Proofs.YtfedcpnnmkkpaaaDoor
open Go Go.RowKit

set_option maxRecDepth 100000 in
theorem otopr_any (a : Option Addr) (n c : Nat) (l : List Int) (k : Int) (w : World) (h : Rz w a n c l) (hn : n ≤ 1000000) :
    Calls Tryd.prog 8 #[.slice a n c, .int .i64 k] w fun e w' => ∃ v, e = .returned v ∧ OwZ w w' v (dr k l ++ [k]) := by
  obtain ⟨i0, hi, hz0, hz1, hz2⟩ := infoZp
  have HD := hid (odropr_any a n c l k w h hn)
  have hdl := dr_length k l
  rw [h.len] at hdl
  clear h
  go_enter Tryd.func8, Tryd.ntmps8
  go_wp2_with fail
  refine HD.out.mono ?_
  rintro e w1 ⟨v1, rfl, ho1⟩
  have hs := ho1.bel.size
  have HN : Hid (∀ u v', u.ownsRow w.heap.size 3 1 v' ((dr k l).length + 1) (ic (dr k l) ++ ic [k]) → (w1.alloc (.cells #[.int .i64 k] 3)).grownBy u v1.ownBlock → OwZ w u v' (dr k l ++ [k])) := fun u v' o g => (ho1.alloc _).grown (k := [k]) rfl o g
  have HS := hid (srcLit w1 k)
  have HW := hid (ho1.alloc (.cells #[.int .i64 k] 3)).own
  have hws : w.heap.size ≤ (w1.alloc (.cells #[.int .i64 k] 3)).heap.size := by rw [World.size_alloc]; omega
  clear ho1 HD
  generalize (dr k l).length = m at *
  go_wp2_with (at_builtin; refine wpList_append_own_src _ rfl (.tmp 7) (.tmp 9) 22 22 rfl w.heap.size 3 i0 (.int .i64 0) 1 8 Tryd.underlying22 hi hz0 hz1 hz2 rfl _ _ _ rfl HW.out _ _ _ rfl HS.out (by simp only [maxLen]; omega) (fitsZ (by omega)) hws ?_; intro v3 w3 o3 g3; have HZ := hid (HN.out _ _ o3 g3); clear o3 g3)
  go_ret
  exact ⟨_, rfl, HZ.out⟩

end Go.Proofs.YtfedcpnnmkkpaaaDoor
