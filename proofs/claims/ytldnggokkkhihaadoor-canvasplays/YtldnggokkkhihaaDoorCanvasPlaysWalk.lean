/- CanvasPlays: for every two numbers and every slice of calls the call returns true; nothing that was there has turned. -/
import Derived.Test.YtldnggokkkhihaaDoorCanK
import Derived.LaidMore
namespace Go.Proofs.YtldnggokkkhihaaDoor.canvasPlays
open Go Go.RowKit

theorem wfi {z : Int} (h : (Lit.int .i64 z).wf = true) : -9223372036854775808 ≤ z ∧ z ≤ 9223372036854775807 := by simpa [Lit.wf, IntKind.min, IntKind.max, IntKind.signed, IntKind.bits] using h

set_option maxRecDepth 100000 in
set_option maxHeartbeats 4000000 in
theorem none_ (a0 a1 : Int) (a2 : Option Addr) (n2 c2 : Nat) (w : World) (hE : Arg w) (h : (side a0 && side a1) = false) :
    Calls Tryd.prog 3 #[.int .i64 a0, .int .i64 a1, .slice a2 n2 c2] w fun e w' => e = .returned (.bool true) ∧ Below w.heap.size w w' := by
  have CN := hid (cnew_no w a0 a1 hE h)
  have CR := hid (fun u => rnew_no u a0 a1 h)
  clear h hE
  go_enter Tryd.func3, Tryd.ntmps3
  go_wp2_with fail
  refine CN.out.mono ?_
  rintro e x1 ⟨⟨a, rfl⟩, hb1⟩
  have HB1 := hid hb1
  clear hb1 CN
  go_wp2_with fail
  refine (CR.out _).mono ?_
  rintro e x2 ⟨rfl, rfl⟩
  clear CR
  go_wp2_with fail
  refine (awake_any _).mono ?_
  rintro e x3 ⟨rfl, hb3⟩
  have HB3 := hid (Below.on HB1.out hb3)
  clear hb3
  go_wp2
  go_ret
  exact ⟨rfl, HB3.out⟩

set_option maxRecDepth 100000 in
set_option maxHeartbeats 4000000 in
theorem some_ (W H : Nat) (a2 : Option Addr) (n2 c2 : Nat) (w : World) (hO : RdO w a2 n2 c2) (hW : 1 ≤ W ∧ W ≤ 48) (hH : 1 ≤ H ∧ H ≤ 48) :
    Calls Tryd.prog 3 #[.int .i64 (W : Nat), .int .i64 (H : Nat), .slice a2 n2 c2] w fun e w' => e = .returned (.bool true) ∧ Below w.heap.size w w' := by
  have CN := hid (cnew_any w W H hW hH)
  have CR := hid (fun u => rnew_any u W H hW hH)
  have HO := hid hO
  have n1 : ((W : Int) == W) = true := by simp
  have n2 : ((H : Int) == H) = true := by simp
  clear hO
  go_enter Tryd.func3, Tryd.ntmps3
  go_wp2_with fail
  refine CN.out.mono ?_
  rintro e x1 ⟨p, b, rfl, hb1, hC, hp, hb⟩
  have HB1 := hid hb1
  have HC := hid hC
  have l1 := hC.lt
  clear hb1 hC CN
  go_wp2_with fail
  refine (CR.out _).mono ?_
  rintro e x2 ⟨q, d, rfl, hb2, hD, hq, hd⟩
  have HB : Hid (Bo w x2 p b q d W H (List.replicate (W * H) 0) (List.replicate (W * H) 0)) := ⟨HC.out.on hb2, hD, by omega, by omega, by omega, hb, by have := HB1.out.size; omega, Below.on HB1.out hb2⟩
  clear hb2 hD CR HC HB1
  go_wp2_with fail
  refine (csize_any HB.out.cv).mono ?_
  rintro e x3 ⟨rfl, hb3⟩
  have HB3 := hid (HB.out.on hb3)
  clear hb3 HB
  go_wp2_with fail
  refine (play_any HB3.out _ _ _ HO.out).mono ?_
  rintro e x4 ⟨rfl, L', hB4⟩
  have HB4 := hid hB4.bel
  clear hB4 HB3
  go_wp2_with fail
  refine (awake_any _).mono ?_
  rintro e x5 ⟨rfl, hb5⟩
  have HB5 := hid (Below.on HB4.out hb5)
  clear hb5 HB4
  go_wp2
  go_ret
  exact ⟨rfl, HB5.out⟩

theorem walk (a0 a1 : Int) (a2 : Option Addr) (n2 c2 : Nat) (w : World) (_w0 : (Lit.int .i64 a0).wf = true) (_w1 : (Lit.int .i64 a1).wf = true) (w2 : RdO w a2 n2 c2) (hL : laidMetH Tryd.prog Rows.canvasPlaysRow.laid w) :
    Calls Tryd.prog 3 #[.int .i64 a0, .int .i64 a1, .slice a2 n2 c2] w fun e w' => e = .returned (.bool true) ∧ Below w.heap.size w w' := by
  cases h : side a0 && side a1
  · exact none_ a0 a1 a2 n2 c2 w (arg_of hL) h
  · simp only [side, Bool.and_eq_true, decide_eq_true_eq] at h
    obtain ⟨W, rfl⟩ := Int.eq_ofNat_of_zero_le (show 0 ≤ a0 by omega)
    obtain ⟨H, rfl⟩ := Int.eq_ofNat_of_zero_le (show 0 ≤ a1 by omega)
    exact some_ W H a2 n2 c2 w w2 (by omega) (by omega)
end Go.Proofs.YtldnggokkkhihaaDoor.canvasPlays
