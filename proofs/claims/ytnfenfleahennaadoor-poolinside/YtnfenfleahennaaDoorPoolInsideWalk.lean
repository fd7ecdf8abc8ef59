/- PoolInside: for any seven numbers the call returns true; nothing that was there has turned. -/
import Derived.Test.YtnfenfleahennaaDoorPolA
import Derived.Test.YtnfenfleahennaaDoorLibS
import Derived.Deep.DeepCutAuto
import Derived.LaidMore
namespace Go.Proofs.YtnfenfleahennaaDoor.poolInside
open Go Go.RowKit

set_option maxRecDepth 100000 in
theorem core (size off wd h st x y : Int) (w : World) (hz : I64 size) (ho : I64 off) (hw : I64 wd) (hh : I64 h) (hs : I64 st) (hx : I64 x) (hy : I64 y) (es : List Addr) (hE : Errs w gerrs es) :
    Calls Tryd.prog 5 #[.int .i64 size, .int .i64 off, .int .i64 wd, .int .i64 h, .int .i64 st, .int .i64 x, .int .i64 y] w fun e w' => e = .returned (.bool true) ∧ Below w.heap.size w w' := by
  have HP := hid (place_any size 65537 hz (by omega) (by omega))
  have hn := plc_lt size 65537 (by omega)
  generalize plc size 65537 = n at *
  have R1 := hid (room_any es n off wd h st 0 w hE (by omega) ho hw hh hs)
  have R2 := hid (room_any es (n + 1) off wd h st 1 w hE (by omega) ho hw hh hs)
  have HW := hid (pawake_any w es hE)
  clear hE
  by_cases hR : wd < 1 ∨ h < 1 ∨ off < 0 ∨ st < 4 * wd ∨ (n : Int) < off + st * h
  · rw [show rmE n off wd h st 0 = 8 by rw [rmE, if_neg (by omega), if_pos hR]] at R1
    obtain ⟨x8, hx8⟩ : ∃ z, erv es 8 = .iface 128 (.pointer (some z)) := ⟨_, rfl⟩
    rw [hx8] at R1
    clear hR R2 hx8
    go_enter Tryd.func5, Tryd.ntmps5
    go_wp2_with fail
    refine (HP.out _).mono ?_
    rintro e w1 ⟨rfl, rfl⟩
    go_wp2_with fail
    refine R1.out.mono ?_
    rintro e w1 ⟨rfl, rfl⟩
    go_wp2_with fail
    refine HW.out.mono ?_
    rintro e w2 ⟨rfl, hb⟩
    go_wp2
    go_ret
    exact ⟨rfl, hb⟩
  · rw [show rmE n off wd h st 0 = 0 by rw [rmE, if_neg (by omega), if_neg hR], show erv es 0 = .nilIface from rfl] at R1
    rw [show rmE (n + 1) off wd h st 1 = 0 by rw [rmE, if_neg (by omega), if_neg (by omega)], show erv es 0 = .nilIface from rfl] at R2
    have hq1 : st ≤ st * h := by have := Int.mul_le_mul_of_nonneg_left (a := 1) (b := h) (c := st) (by omega) (by omega); rwa [Int.mul_one] at this
    have hwn : wd ≤ 65537 := by omega
    have hhn : h ≤ 65537 := by
      have := Int.mul_le_mul_of_nonneg_right (a := 1) (b := st) (c := h) (by omega) (by omega)
      omega
    obtain ⟨W, rfl⟩ : ∃ W : Nat, wd = W := ⟨wd.toNat, by omega⟩
    obtain ⟨T, rfl⟩ : ∃ T : Nat, h = T := ⟨h.toNat, by omega⟩
    have HX := hid (place_any x W hx (by omega) (by omega))
    have HY := hid (place_any y T hy (by omega) (by omega))
    have hi := plc_lt x W (by omega)
    have hj := plc_lt y T (by omega)
    generalize plc x W = i at *
    generalize plc y T = j at *
    have p1 : 0 ≤ st * (j : Int) := Int.mul_nonneg (by omega) (by omega)
    have p2 : st * (j : Int) + st ≤ st * (T : Int) := by
      have := Int.mul_le_mul_of_nonneg_left (a := (j : Int) + 1) (b := (T : Int)) (c := st) (by omega) (by omega)
      rwa [Int.mul_add, Int.mul_one] at this
    have e1 : decide ((W : Int) < 1) = false := decide_eq_false (by omega)
    have e2 : decide ((T : Int) < 1) = false := decide_eq_false (by omega)
    have e3 : decide (0 ≤ off + st * (j : Int) + 4 * (i : Int)) = true := decide_eq_true (by omega)
    have e4 : decide (off + st * (j : Int) + 4 * (i : Int) + 4 ≤ (n : Int)) = true := decide_eq_true (by omega)
    have e5 : decide (off + st * (j : Int) + 4 * (i : Int) + 4 ≤ off + st * (T : Int)) = true := decide_eq_true (by omega)
    go_enter Tryd.func5, Tryd.ntmps5
    go_wp2_with fail
    refine (HP.out _).mono ?_
    rintro e w1 ⟨rfl, rfl⟩
    go_wp2_with fail
    refine R1.out.mono ?_
    rintro e w1 ⟨rfl, rfl⟩
    go_wp2_with fail
    refine (HX.out _).mono ?_
    rintro e w1 ⟨rfl, rfl⟩
    go_wp2_with fail
    refine (HY.out _).mono ?_
    rintro e w1 ⟨rfl, rfl⟩
    go_wp2_with fail
    refine R2.out.mono ?_
    rintro e w1 ⟨rfl, rfl⟩
    go_wp2_with fail
    refine HW.out.mono ?_
    rintro e w2 ⟨rfl, hb⟩
    go_wp2
    go_ret
    exact ⟨rfl, hb⟩

theorem walk (size off wd h st x y : Int) (w : World) (hz : (Lit.int .i64 size).wf = true) (ho : (Lit.int .i64 off).wf = true) (hw : (Lit.int .i64 wd).wf = true) (hh : (Lit.int .i64 h).wf = true) (hs : (Lit.int .i64 st).wf = true) (hx : (Lit.int .i64 x).wf = true) (hy : (Lit.int .i64 y).wf = true) (hL : laidMetH Tryd.prog Rows.poolInsideRow.laid w) :
    Calls Tryd.prog 5 #[.int .i64 size, .int .i64 off, .int .i64 wd, .int .i64 h, .int .i64 st, .int .i64 x, .int .i64 y] w fun e w' => e = .returned (.bool true) ∧ Below w.heap.size w w' := by
  obtain ⟨es, hE⟩ := errs16 hL
  exact core size off wd h st x y w (wf64 hz) (wf64 ho) (wf64 hw) (wf64 hh) (wf64 hs) (wf64 hx) (wf64 hy) es hE
end Go.Proofs.YtnfenfleahennaaDoor.poolInside
