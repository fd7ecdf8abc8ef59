/- PoolWraps: for any two numbers the call returns true; nothing that was there has turned. -/
import Derived.Test.YtnfenfleahennaaDoorPolA
import Derived.Test.YtnfenfleahennaaDoorLibS
import Derived.Deep.DeepCutAuto
import Derived.LaidMore
namespace Go.Proofs.YtnfenfleahennaaDoor.poolWraps
open Go Go.RowKit

set_option maxRecDepth 100000 in
theorem core (a b : Int) (w : World) (ha : I64 a) (hb : I64 b) (es : List Addr) (hE : Errs w gerrs es) :
    Calls Tryd.prog 6 #[.int .i64 a, .int .i64 b] w fun e w' => e = .returned (.bool true) ∧ Below w.heap.size w w' := by
  have HP := hid (place_any a 1099511627776 ha (by omega) (by omega))
  have HQ := hid (place_any b 1000 hb (by omega) (by omega))
  have hm := plc_lt a 1099511627776 (by omega)
  have hk := plc_lt b 1000 (by omega)
  generalize plc a 1099511627776 = m at *
  generalize plc b 1000 = k at *
  obtain ⟨M, hM⟩ : ∃ M : Int, M = 4611686018427387904 + (m : Int) := ⟨_, rfl⟩
  obtain ⟨K, hK⟩ : ∃ K : Int, K = 4 + (k : Int) := ⟨_, rfl⟩
  have R1 := hid (room_any es 65536 1 1 M K 0 w hE (by decide) (by decide) (by decide) (by omega) (by omega))
  have R2 := hid (room_any es 65536 M 1 1 M 0 w hE (by decide) (by omega) (by decide) (by decide) (by omega))
  have R3 := hid (room_any es 65536 0 M 1 (-M) 0 w hE (by decide) (by decide) (by omega) (by decide) (by omega))
  have R4 := hid (room_any es 65536 0 1 4294967296 4294967296 0 w hE (by decide) (by decide) (by decide) (by decide) (by decide))
  have R5 := hid (room_any es 65536 M 1 2147483648 8589934592 1 w hE (by decide) (by omega) (by decide) (by decide) (by decide))
  rw [show rmE 65536 1 1 M K 0 = 8 by
    have := Int.mul_le_mul_of_nonneg_right (a := 1) (b := K) (c := M) (by omega) (by omega)
    rw [rmE, if_neg (by omega), if_pos (by omega)]] at R1
  rw [show rmE 65536 M 1 1 M 0 = 8 by rw [rmE, if_neg (by omega), if_pos (by omega)]] at R2
  rw [show rmE 65536 0 M 1 (-M) 0 = 8 by rw [rmE, if_neg (by omega), if_pos (by omega)]] at R3
  rw [show rmE 65536 0 1 4294967296 4294967296 0 = 8 by decide] at R4
  rw [show rmE 65536 M 1 2147483648 8589934592 1 = 8 by rw [rmE, if_neg (by omega), if_pos (by omega)]] at R5
  have HW := hid (pawake_any w es hE)
  obtain ⟨x8, hx8⟩ : ∃ z, erv es 8 = .iface 128 (.pointer (some z)) := ⟨_, rfl⟩
  rw [hx8] at R1 R2 R3 R4 R5
  subst hM hK
  clear hE hx8
  go_enter Tryd.func6, Tryd.ntmps6
  go_wp2_with fail
  refine (HP.out _).mono ?_
  rintro e w1 ⟨rfl, rfl⟩
  go_wp2_with fail
  refine (HQ.out _).mono ?_
  rintro e w1 ⟨rfl, rfl⟩
  go_wp2_with fail
  refine R1.out.mono ?_
  rintro e w1 ⟨rfl, rfl⟩
  go_wp2_with fail
  refine R2.out.mono ?_
  rintro e w1 ⟨rfl, rfl⟩
  go_wp2_with fail
  refine R3.out.mono ?_
  rintro e w1 ⟨rfl, rfl⟩
  go_wp2_with fail
  refine R4.out.mono ?_
  rintro e w1 ⟨rfl, rfl⟩
  go_wp2_with fail
  refine R5.out.mono ?_
  rintro e w1 ⟨rfl, rfl⟩
  go_wp2_with fail
  refine HW.out.mono ?_
  rintro e w2 ⟨rfl, hb⟩
  go_wp2
  go_ret
  exact ⟨rfl, hb⟩

theorem walk (a b : Int) (w : World) (ha : (Lit.int .i64 a).wf = true) (hb : (Lit.int .i64 b).wf = true) (hL : laidMetH Tryd.prog Rows.poolWrapsRow.laid w) :
    Calls Tryd.prog 6 #[.int .i64 a, .int .i64 b] w fun e w' => e = .returned (.bool true) ∧ Below w.heap.size w w' := by
  obtain ⟨es, hE⟩ := errs16 hL
  exact core a b w (wf64 ha) (wf64 hb) es hE
end Go.Proofs.YtnfenfleahennaaDoor.poolWraps
