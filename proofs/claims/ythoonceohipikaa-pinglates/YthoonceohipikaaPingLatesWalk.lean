/- PingLates: for every serial, tick, number and truth the call returns true; nothing that was there has turned. -/
import Derived.Test.YthoonceohipikaaPngB
namespace Go.Proofs.Ythoonceohipikaa.pingLates
open Go Go.RowKit

/-- A number with its lowest bit turned is another one. -/
theorem xor_one (x : Int) : (x == bits BinOp.xor IntKind.i64 x 1) = false := by
  rw [beq_eq_false_iff_ne]
  intro e
  have h1 : ∀ n : Int, BitVec.ofInt 64 (IntKind.i64.wrap n) = BitVec.ofInt 64 n := fun n => by
    apply BitVec.eq_of_toNat_eq
    simp only [BitVec.toNat_ofInt, IntKind.wrap, IntKind.bits, IntKind.signed, Bool.true_and]
    split <;> omega
  have h2 : BitVec.ofInt 64 x = BitVec.ofInt 64 x ^^^ 1#64 := by
    have e' : BitVec.ofInt 64 x = BitVec.ofInt 64 (IntKind.i64.wrap ((BitVec.ofInt 64 x ^^^ BitVec.ofInt 64 1).toNat : Int)) := congrArg (BitVec.ofInt 64) e
    rw [h1] at e'
    rw [BitVec.ofInt_natCast] at e'
    rw [BitVec.ofNat_toNat] at e'
    simpa using e'
  have h3 := congrArg (fun v => BitVec.ofInt 64 x ^^^ v) h2
  simp only [BitVec.xor_self, ← BitVec.xor_assoc, BitVec.zero_xor] at h3
  exact absurd h3 (by decide)

theorem wrap_I64 (z : Int) : I64 (IntKind.i64.wrap z) := by
  have e : IntKind.i64.wrap z = if 9223372036854775808 ≤ z % 18446744073709551616 then z % 18446744073709551616 - 18446744073709551616 else z % 18446744073709551616 := by
    simp [IntKind.wrap, IntKind.bits, IntKind.signed]
  rw [e]
  unfold I64
  split <;> omega

set_option maxRecDepth 100000 in
set_option maxHeartbeats 400000 in
theorem walk (s t0 n : Int) (b : Bool) (w : World) (hs : (Lit.int .i64 s).wf = true) (ht : (Lit.int .i64 t0).wf = true) (hn : (Lit.int .i64 n).wf = true) :
    Calls Try.prog 4 #[.int .i64 s, .int .i64 t0, .int .i64 n, .bool b] w fun e w' => e = .returned (.bool true) ∧ Below w.heap.size w w' := by
  have hs' := wfi hs
  have hx := xor_one s
  have CP := hid (place_any t0 1099511627776 (wfi ht) (by omega) (by omega))
  have CQ := hid (place_any n 10 (wfi hn) (by omega) (by omega))
  have hv := plc_lt t0 1099511627776 (by omega)
  have hk := plc_lt n 10 (by omega)
  rw [show ((1099511627776 : Nat) : Int) = 1099511627776 by omega] at CP
  generalize plc t0 1099511627776 = t at *
  generalize plc n 10 = k at *
  have HI : Hid (I64 (RowKit.wrap64 (s + 1))) := by rw [Hid, ← IntWalk.i64_left]; exact wrap_I64 _
  have HS := hid hs'
  clear hs ht hn hs'
  go_enter Try.func4, Try.ntmps4
  go_wp2_with fail
  refine (CP.out _).mono ?_
  rintro e w ⟨rfl, rfl⟩
  clear CP
  go_wp2_with fail
  refine (CQ.out _).mono ?_
  rintro e w ⟨rfl, rfl⟩
  clear CQ
  go_wp2_with fail
  refine (pqnew w).mono ?_
  rintro e w1 ⟨rfl, h1⟩
  generalize w.heap.size = p at *
  have HA := hid (h1.ask s t HS.out (by unfold I64; omega))
  clear h1
  go_wp2_with fail
  refine HA.out.mono ?_
  rintro e w2 ⟨rfl, h2, -⟩
  rw [show (!pon none) = true from rfl]
  have HB := hid (h2.ask (RowKit.wrap64 (s + 1)) t HI.out (by unfold I64; omega))
  rw [show (!pon (none.or (some (s, (t : Int))))) = false from rfl] at HB
  clear h2 HA
  go_wp2_with fail
  refine HB.out.mono ?_
  rintro e w3 ⟨rfl, h3, -⟩
  have HC := hid (h3.pong (bits BinOp.xor IntKind.i64 s 1))
  simp only [Option.or, pon, psr, hx, Bool.true_and, Bool.false_eq_true, if_false] at HC
  clear h3 HB HI
  go_wp2_with fail
  refine HC.out.mono ?_
  rintro e w4 ⟨rfl, h4, -⟩
  have hI : I64 (t + k) ∧ I64 ((t : Int) - 1) := by unfold I64; omega
  cases b
  · have HL := hid (plate_any h4.pn (t + k) hI.1)
    have HM := hid (plate_any h4.pn (t - 1) hI.2)
    have HB4 := hid h4.bel
    have e1 : plate (some (s, (t : Int))) (t + k) = decide ((3 : Int) < k) := by simp only [plate]; rw [decide_eq_decide]; omega
    have e2 : plate (some (s, (t : Int))) ((t : Int) - 1) = false := by simp only [plate]; exact decide_eq_false (by omega)
    rw [e1] at HL
    rw [e2] at HM
    clear h4 HC hI e1 e2 HS
    go_wp2_with fail
    refine (HL.out).mono ?_
    rintro e w4 ⟨rfl, rfl⟩
    clear HL
    go_wp2_with fail
    refine (HM.out).mono ?_
    rintro e w4 ⟨rfl, rfl⟩
    clear HM
    go_wp2_with fail
    refine (pawake_any _).mono ?_
    rintro e w5 ⟨rfl, h5⟩
    have HB5 := hid (Below.on HB4.out h5)
    clear h5
    go_wp2
    go_ret
    exact ⟨rfl, HB5.out⟩
  · have HD := hid (h4.pong s)
    clear h4 HC
    rw [show (pon (some (s, (t : Int))) && psr (some (s, (t : Int))) == s) = true by simp [pon, psr]] at HD
    go_wp2_with fail
    refine HD.out.mono ?_
    rintro e w5 ⟨rfl, h5, -⟩
    have HL := hid (plate_any h5.pn (t + k) hI.1)
    have HM := hid (plate_any h5.pn (t - 1) hI.2)
    have HB5 := hid h5.bel
    clear h5 HD hI HS
    go_wp2_with fail
    refine (HL.out).mono ?_
    rintro e w5 ⟨rfl, rfl⟩
    clear HL
    go_wp2_with fail
    refine (HM.out).mono ?_
    rintro e w5 ⟨rfl, rfl⟩
    clear HM
    go_wp2_with fail
    refine (pawake_any _).mono ?_
    rintro e w6 ⟨rfl, h6⟩
    have HB6 := hid (Below.on HB5.out h6)
    clear h6
    go_wp2
    go_ret
    exact ⟨rfl, HB6.out⟩
end Go.Proofs.Ythoonceohipikaa.pingLates
