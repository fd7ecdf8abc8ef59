/- PoolEdges: for any four numbers the call returns true; nothing that was there has turned. -/
import Derived.Test.YtnfenfleahennaaDoorPolA
import Derived.Test.YtnfenfleahennaaDoorLibS
import Derived.Deep.DeepCutAuto
import Derived.LaidMore
namespace Go.Proofs.YtnfenfleahennaaDoor.poolEdges
open Go Go.RowKit

set_option maxRecDepth 100000 in
theorem core (wd h mo off : Int) (w : World) (hw : I64 wd) (hh : I64 h) (hm : I64 mo) (ho : I64 off) (es : List Addr) (hE : Errs w gerrs es) :
    Calls Tryd.prog 8 #[.int .i64 wd, .int .i64 h, .int .i64 mo, .int .i64 off] w fun e w' => e = .returned (.bool true) ∧ Below w.heap.size w w' := by
  have P1 := hid (place_any wd 40 hw (by omega) (by omega))
  have P2 := hid (place_any h 40 hh (by omega) (by omega))
  have P3 := hid (place_any mo 9 hm (by omega) (by omega))
  have P4 := hid (place_any off 500 ho (by omega) (by omega))
  have h1 := plc_lt wd 40 (by omega)
  have h2 := plc_lt h 40 (by omega)
  have h3 := plc_lt mo 9 (by omega)
  have h4 := plc_lt off 500 (by omega)
  generalize plc wd 40 = a at *
  generalize plc h 40 = b at *
  generalize plc mo 9 = s at *
  generalize plc off 500 = o at *
  obtain ⟨A, hA⟩ : ∃ A : Int, A = 1 + (a : Int) := ⟨_, rfl⟩
  obtain ⟨B, hB⟩ : ∃ B : Int, B = 1 + (b : Int) := ⟨_, rfl⟩
  obtain ⟨S, hS⟩ : ∃ S : Int, S = 4 * A + (s : Int) := ⟨_, rfl⟩
  obtain ⟨O, hO⟩ : ∃ O : Int, O = (o : Int) := ⟨_, rfl⟩
  have m1 : 0 ≤ S * B := Int.mul_nonneg (by omega) (by omega)
  have m2 : S * B ≤ 1000 * 1000 := Int.mul_le_mul (by omega) (by omega) (by omega) (by omega)
  have m3 : S * (B + 1) = S * B + S := by rw [Int.mul_add, Int.mul_one]
  have hr : 0 ≤ O + S * B ∧ O + S * B ≤ 2000000 := by omega
  have R1 := hid (room_any es (O + S * B) O A B S 0 w hE (by omega) (by omega) (by omega) (by omega) (by omega))
  have R2 := hid (room_any es (O + S * B - 1) O A B S 0 w hE (by omega) (by omega) (by omega) (by omega) (by omega))
  have R3 := hid (fun u hu => room_any es (O + S * B) (O + 1) A B S 1 u (hE.below (w' := u) hu) (by omega) (by omega) (by omega) (by omega) (by omega))
  have R4 := hid (fun u hu => room_any es (O + S * B) O A (B + 1) S 0 u (hE.below (w' := u) hu) (by omega) (by omega) (by omega) (by omega) (by omega))
  have R5 := hid (fun u hu => room_any es (O + S * B) O A B (4 * A - 1) 0 u (hE.below (w' := u) hu) (by omega) (by omega) (by omega) (by omega) (by omega))
  have R6 := hid (fun u hu => room_any es (O + S * B) O A B S (-1) u (hE.below (w' := u) hu) (by omega) (by omega) (by omega) (by omega) (by omega))
  rw [show rmE (O + S * B) O A B S 0 = 0 by rw [rmE, if_neg (by omega), if_neg (by omega)], show erv es 0 = .nilIface from rfl] at R1
  rw [show rmE (O + S * B - 1) O A B S 0 = 8 by rw [rmE, if_neg (by omega), if_pos (by omega)]] at R2
  rw [show rmE (O + S * B) (O + 1) A B S 1 = 8 by rw [rmE, if_neg (by omega), if_pos (by omega)]] at R3
  rw [show rmE (O + S * B) O A (B + 1) S 0 = 8 by rw [rmE, if_neg (by omega), if_pos (by omega)]] at R4
  rw [show rmE (O + S * B) O A B (4 * A - 1) 0 = 8 by rw [rmE, if_neg (by omega), if_pos (by omega)]] at R5
  rw [show rmE (O + S * B) O A B S (-1) = 7 by rw [rmE, if_pos (by omega)]] at R6
  have K8 := hid (kind_erv w es hE 8 (by decide))
  have K7 := hid (fun u hu => kind_erv u es (hE.below (w' := u) hu) 7 (by decide))
  have HW := hid (fun u hu => pawake_any u es (hE.below (w' := u) hu))
  obtain ⟨x8, hx8⟩ : ∃ z, erv es 8 = .iface 128 (.pointer (some z)) := ⟨_, rfl⟩
  obtain ⟨x7, hx7⟩ : ∃ z, erv es 7 = .iface 128 (.pointer (some z)) := ⟨_, rfl⟩
  rw [hx8] at R2 R3 R4 R5 K8
  rw [hx7] at R6 K7
  subst hS hO hA hB
  clear hE hx8 hx7
  go_enter Tryd.func8, Tryd.ntmps8
  go_wp2_with fail
  refine (P1.out _).mono ?_
  rintro e w1 ⟨rfl, rfl⟩
  go_wp2_with fail
  refine (P2.out _).mono ?_
  rintro e w1 ⟨rfl, rfl⟩
  go_wp2_with fail
  refine (P3.out _).mono ?_
  rintro e w1 ⟨rfl, rfl⟩
  go_wp2_with fail
  refine (P4.out _).mono ?_
  rintro e w1 ⟨rfl, rfl⟩
  go_wp2_with fail
  refine R1.out.mono ?_
  rintro e w1 ⟨rfl, rfl⟩
  go_wp2_with fail
  refine R2.out.mono ?_
  rintro e w1 ⟨rfl, rfl⟩
  go_wp2_with fail
  refine K8.out.mono ?_
  rintro e w2 ⟨rfl, hb⟩
  have HB := hid hb
  clear hb
  go_wp2_with fail
  refine (R3.out _ HB.out).mono ?_
  rintro e w3 ⟨rfl, rfl⟩
  go_wp2_with fail
  refine (R4.out _ HB.out).mono ?_
  rintro e w3 ⟨rfl, rfl⟩
  go_wp2_with fail
  refine (R5.out _ HB.out).mono ?_
  rintro e w3 ⟨rfl, rfl⟩
  go_wp2_with fail
  refine (R6.out _ HB.out).mono ?_
  rintro e w3 ⟨rfl, rfl⟩
  go_wp2_with fail
  refine (K7.out _ HB.out).mono ?_
  rintro e w4 ⟨rfl, hb⟩
  have HB4 := hid (Below.on HB.out hb)
  clear hb
  go_wp2_with fail
  refine (HW.out _ HB4.out).mono ?_
  rintro e w5 ⟨rfl, hb⟩
  go_wp2
  go_ret
  exact ⟨rfl, Below.on HB4.out hb⟩

theorem walk (wd h mo off : Int) (w : World) (hw : (Lit.int .i64 wd).wf = true) (hh : (Lit.int .i64 h).wf = true) (hm : (Lit.int .i64 mo).wf = true) (ho : (Lit.int .i64 off).wf = true) (hL : laidMetH Tryd.prog Rows.poolEdgesRow.laid w) :
    Calls Tryd.prog 8 #[.int .i64 wd, .int .i64 h, .int .i64 mo, .int .i64 off] w fun e w' => e = .returned (.bool true) ∧ Below w.heap.size w w' := by
  obtain ⟨es, hE⟩ := errs16 hL
  exact core wd h mo off w (wf64 hw) (wf64 hh) (wf64 hm) (wf64 ho) es hE
end Go.Proofs.YtnfenfleahennaaDoor.poolEdges
