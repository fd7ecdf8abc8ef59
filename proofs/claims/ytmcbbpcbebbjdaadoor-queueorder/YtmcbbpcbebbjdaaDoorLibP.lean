/- Place: a number as a place. -/
import Derived.Test.YtmcbbpcbebbjdaaDoorLibK
import Derived.Test.YtmcbbpcbebbjdaaDoorChecked
import Derived.BigQuiet
namespace Go.Proofs.YtmcbbpcbebbjdaaDoor
open Go Go.RowKit

/-- A number as a place. -/
def plc (v : Int) (n : Nat) : Nat := (v % n).toNat

theorem plc_lt (v : Int) (n : Nat) (h : 0 < n) : plc v n < n := by
  have h1 := Int.emod_nonneg v (b := (n : Int)) (by omega)
  have h2 := Int.emod_lt_of_pos v (b := (n : Int)) (by omega)
  unfold plc
  omega

theorem ret_plc {k : IntKind} {a b : Int} (h : a = b) : Ending.returned (.int k a) = .returned (.int k b) := by rw [h]

theorem place_any (v : Int) (n : Nat) (_hv : -9223372036854775808 ≤ v ∧ v ≤ 9223372036854775807) (hn : 0 < n) (hn2 : n ≤ 1152921504606846976) (w : World) :
    Calls Tryd.prog 9 #[.int .i64 v, .int .i64 n] w fun e w' => e = .returned (.int .i64 (plc v n : Nat)) ∧ w' = w := by
  have h0 : ¬ ((n : Int) = 0) := by omega
  go_enter Tryd.func9, Tryd.ntmps9
  have hb := Int.emod_nonneg v (b := (n : Int)) (by omega)
  have hb2 := Int.emod_lt_of_pos v (b := (n : Int)) (by omega)
  have HP : Hid (((plc v n : Nat) : Int) = v % n) := by simp only [Hid]; unfold plc; omega
  have HT : Hid (v.tmod n = if 0 ≤ v ∨ (n : Int) ∣ v then v % n else v % n - n) := by
    simp only [Hid]
    rw [Int.tmod_eq_emod]
    split <;> simp
  have ht : -9223372036854775808 ≤ v.tmod n + n ∧ v.tmod n + n ≤ 9223372036854775807 := by rw [HT.out]; split <;> omega
  clear hb hb2
  go_wp2
  all_goals
    go_ret
    refine ⟨ret_plc ?_, rfl⟩
    have hb := Int.emod_nonneg v (b := (n : Int)) (by omega)
    have hb2 := Int.emod_lt_of_pos v (b := (n : Int)) (by omega)
    have h1 := HT.out
    rw [HP.out]
    split at h1 <;> omega
end Go.Proofs.YtmcbbpcbebbjdaaDoor
