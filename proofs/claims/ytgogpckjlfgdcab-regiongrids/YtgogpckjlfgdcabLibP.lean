/- Place: a number as a place. -/
import Derived.Test.YtgogpckjlfgdcabLibK
import Derived.Test.YtgogpckjlfgdcabChecked
import Derived.BigQuiet
namespace Go.Proofs.Ytgogpckjlfgdcab
open Go Go.RowKit

/-- A number as a place. -/
def plc (v : Int) (n : Nat) : Nat := (v % n).toNat

theorem plc_lt (v : Int) (n : Nat) (h : 0 < n) : plc v n < n := by
  have h1 := Int.emod_nonneg v (b := (n : Int)) (by omega)
  have h2 := Int.emod_lt_of_pos v (b := (n : Int)) (by omega)
  unfold plc
  omega

theorem ret_plc {k : IntKind} {a b : Int} (h : a = b) : Ending.returned (.int k a) = .returned (.int k b) := by rw [h]

end Go.Proofs.Ytgogpckjlfgdcab
