/- The program's orders: Top, beside, Above, Below. -/
import Derived.Test.YtfedcpnnmkkpaaaDoorOrdD
namespace Go.Proofs.YtfedcpnnmkkpaaaDoor
open Go Go.RowKit

set_option maxRecDepth 100000 in
theorem otop_any (a : Option Addr) (n c : Nat) (l : List Int) (k : Int) (w : World) (p : Addr) (hp : Pl w p) (h : Rz w a n c l) (hn : n ≤ 1000000) :
    Calls Tryd.prog 18 #[.slice a n c, .int .i64 k] w fun e w' => ∃ v, e = .returned v ∧ OwZ w w' v (dr k l ++ [k]) := by
  have HD := hid (odrop_any a n c l k w p hp h hn)
  have hdl := dr_length k l
  rw [h.len] at hdl
  clear h hp
  go_enter Tryd.func18, Tryd.ntmps18
  go_wp2_with fail
  refine HD.out.mono ?_
  rintro e w1 ⟨v1, rfl, ho1⟩
  obtain ⟨a1, c1, rfl, hr1, -⟩ := ho1.rd
  have hs := hr1.small
  have HI := hid (oinsert_any a1 _ c1 _ (dr k l).length k w1 hr1 (Nat.le_refl _) (by omega))
  have HB := hid ho1.bel
  rw [ins_end] at HI
  clear ho1 hr1 HD
  generalize (dr k l).length = m at *
  go_wp2_with fail
  refine HI.out.mono ?_
  rintro e w2 ⟨v2, rfl, ho2⟩
  have HO := hid (ho2.base HB.out)
  clear ho2 HI HB
  go_wp2
  go_ret
  exact ⟨_, rfl, HO.out⟩

/-- What Above and Below answer. -/
def BesR (w : World) (p : Addr) (r : Option (List Int)) (e : Ending) (w' : World) : Prop := match r with
  | none => e = .returned (.tuple #[.slice none 0 0, .iface 62 (.pointer (some p))]) ∧ Below w.heap.size w w'
  | some m => ∃ v, e = .returned (.tuple #[v, .nilIface]) ∧ OwZ w w' v m

theorem bes_length {l m : List Int} {id by_ : Int} {b : Nat} (h : bes l id by_ b = some m) : m.length ≤ l.length + 1 := by
  unfold bes at h
  split at h
  · cases h
  · obtain ⟨i, _, rfl⟩ := Option.map_eq_some_iff.1 h
    rw [ins_length]
    have := dr_length id l
    omega




end Go.Proofs.YtfedcpnnmkkpaaaDoor
