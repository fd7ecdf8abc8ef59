/- PingAsks: for every slice of numbers the call returns true; nothing that was there has turned. -/
import Derived.Test.YthoonceohipikaaPngB
import Derived.Test.YthoonceohipikaaLibI
import Derived.Deep.CutBlock
import Derived.Deep.DeepCutAuto
namespace Go.Proofs.Ythoonceohipikaa.pingAsks
open Go Go.RowKit

theorem wrap_I64 (z : Int) : I64 (IntKind.i64.wrap z) := by
  have e : IntKind.i64.wrap z = if 9223372036854775808 ≤ z % 18446744073709551616 then z % 18446744073709551616 - 18446744073709551616 else z % 18446744073709551616 := by
    simp [IntKind.wrap, IntKind.bits, IntKind.signed]
  rw [e]
  unfold I64
  split <;> omega
theorem bits_I64 (b : BinOp) (x y : Int) : I64 (bits b .i64 x y) := wrap_I64 _

set_option maxRecDepth 100000 in
set_option maxHeartbeats 1000000 in
theorem core (a : Option Addr) (n c : Nat) (l : List Int) (w : World) (h : Rz w a n c l) :
    Calls Try.prog 5 #[.slice a n c] w fun e w' => e = .returned (.bool true) ∧ Below w.heap.size w w' := by
  have hs := h.small
  have HR := hid h
  clear h
  go_enter Try.func5, Try.ntmps5
  go_wp2_with fail
  refine (pqnew w).mono ?_
  rintro e w1 ⟨rfl, h1⟩
  generalize hg : w.heap.size = p at h1 ⊢
  have H1 := hid h1
  clear h1
  go_upto_block 0 with fail
  go_cut [] (fun wc => RowKit.Below w.heap.size w wc)
  case first =>
    go_wp2
    go_loopw [4, 5, 6] (fun f z i wr => ∃ (j : Nat) (o : Option (Int × Int)), f = .bool (pon o) ∧ z = .int .i64 (psr o) ∧ i = .int .i64 j ∧ j ≤ n ∧ j ≤ 40 ∧ Pq 43 w wr p o) (fun _ _ i _ => n - (numOf i).toNat)
    case atStart => exact ⟨0, none, rfl, rfl, rfl, by omega, by omega, H1.out⟩
    case round =>
      obtain ⟨j, o, rfl, rfl, rfl, hj, hj40, hk⟩ := hrel
      clear H1
      by_cases hgo : j < n ∧ j < 40
      · obtain ⟨hgo1, hgo2⟩ := hgo
        have e1 : decide ((j : Int) < (n : Int)) = true := decide_eq_true (by omega)
        have e2 : decide ((j : Int) < 40) = true := decide_eq_true (by omega)
        have e3 : (j : Int) < (n : Int) := by omega
        obtain ⟨bl, off, x, rfl, hbl, hx, c0⟩ := (HR.out.on hk.bel).at_ hgo1
        have HY : Hid (I64 (bits BinOp.and IntKind.i64 x 7)) := bits_I64 _ _ _
        cases hz : (bits BinOp.and IntKind.i64 x 8 == 0)
        · cases o with
          | none =>
            have HK := hid (hk.pong (bits BinOp.and IntKind.i64 x 7))
            simp only [pon, psr, Bool.false_and, Bool.false_eq_true, if_false] at HK ⊢
            clear hk hx
            go_wp2_with fail
            refine HK.out.mono ?_
            rintro e w2 ⟨rfl, h2, -⟩
            have HW := hid h2.waits
            rw [show pon (none) = false from rfl, show psr (none) = 0 from rfl] at HW
            clear h2 HK
            go_wp2_with fail
            refine HW.out.mono ?_
            rintro e w3 ⟨rfl, h3, -⟩
            have H3 := hid h3
            clear h3 HW
            go_wp2
            go_roundw
            case rel => exact ⟨j + 1, none, rfl, rfl, by go_num, by omega, by omega, H3.out⟩
            case measure => simp [numOf]; omega
          | some st =>
            obtain ⟨s, t⟩ := st
            cases hq : (s == (bits BinOp.and IntKind.i64 x 7))
            · have HK := hid (hk.pong (bits BinOp.and IntKind.i64 x 7))
              simp only [pon, psr, hq, Bool.true_and, Bool.false_eq_true, if_false] at HK ⊢
              clear hk hx
              go_wp2_with fail
              refine HK.out.mono ?_
              rintro e w2 ⟨rfl, h2, -⟩
              have HW := hid h2.waits
              rw [show pon (some (s, t)) = true from rfl, show psr (some (s, t)) = s from rfl] at HW
              clear h2 HK
              have e9 : (s != s) = false := by simp
              go_wp2_with fail
              refine HW.out.mono ?_
              rintro e w3 ⟨rfl, h3, -⟩
              have H3 := hid h3
              clear h3 HW
              go_wp2
              go_roundw
              case rel => exact ⟨j + 1, some (s, t), rfl, rfl, by go_num, by omega, by omega, H3.out⟩
              case measure => simp [numOf]; omega
            · have HK := hid (hk.pong (bits BinOp.and IntKind.i64 x 7))
              simp only [pon, psr, hq, Bool.true_and, if_true] at HK ⊢
              clear hk hx
              go_wp2_with fail
              refine HK.out.mono ?_
              rintro e w2 ⟨rfl, h2, -⟩
              have HW := hid h2.waits
              rw [show pon (none) = false from rfl, show psr (none) = 0 from rfl] at HW
              clear h2 HK
              go_wp2_with fail
              refine HW.out.mono ?_
              rintro e w3 ⟨rfl, h3, -⟩
              have H3 := hid h3
              clear h3 HW
              go_wp2
              go_roundw
              case rel => exact ⟨j + 1, none, rfl, rfl, by go_num, by omega, by omega, H3.out⟩
              case measure => simp [numOf]; omega
        · cases o with
          | none =>
            have HK := hid (hk.ask (bits BinOp.and IntKind.i64 x 7) j HY.out (by unfold I64; omega))
            simp only [Option.or, pon, psr, Bool.not_false] at HK ⊢
            clear hk hx
            go_wp2_with fail
            refine HK.out.mono ?_
            rintro e w2 ⟨rfl, h2, -⟩
            have HW := hid h2.waits
            rw [show pon (some ((bits BinOp.and IntKind.i64 x 7), (j : Int))) = true from rfl, show psr (some ((bits BinOp.and IntKind.i64 x 7), (j : Int))) = (bits BinOp.and IntKind.i64 x 7) from rfl] at HW
            clear h2 HK
            have e9 : ((bits BinOp.and IntKind.i64 x 7) != (bits BinOp.and IntKind.i64 x 7)) = false := by simp
            go_wp2_with fail
            refine HW.out.mono ?_
            rintro e w3 ⟨rfl, h3, -⟩
            have H3 := hid h3
            clear h3 HW
            go_wp2
            go_roundw
            case rel => exact ⟨j + 1, some ((bits BinOp.and IntKind.i64 x 7), (j : Int)), rfl, rfl, by go_num, by omega, by omega, H3.out⟩
            case measure => simp [numOf]; omega
          | some st =>
            obtain ⟨s, t⟩ := st
            have HK := hid (hk.ask (bits BinOp.and IntKind.i64 x 7) j HY.out (by unfold I64; omega))
            simp only [Option.or, pon, psr, Bool.not_true] at HK ⊢
            clear hk hx
            go_wp2_with fail
            refine HK.out.mono ?_
            rintro e w2 ⟨rfl, h2, -⟩
            have HW := hid h2.waits
            rw [show pon (some (s, t)) = true from rfl, show psr (some (s, t)) = s from rfl] at HW
            clear h2 HK
            have e9 : (s != s) = false := by simp
            go_wp2_with fail
            refine HW.out.mono ?_
            rintro e w3 ⟨rfl, h3, -⟩
            have H3 := hid h3
            clear h3 HW
            go_wp2
            go_roundw
            case rel => exact ⟨j + 1, some (s, t), rfl, rfl, by go_num, by omega, by omega, H3.out⟩
            case measure => simp [numOf]; omega
      · have HM := hid hk.bel
        clear hk
        by_cases h1 : j < n
        · have e1 : decide ((j : Int) < (n : Int)) = true := decide_eq_true (by omega)
          have e2 : decide ((j : Int) < 40) = false := decide_eq_false (by omega)
          go_wp2
          go_meet
          exact HM.out
        · have e1 : decide ((j : Int) < (n : Int)) = false := decide_eq_false (by omega)
          go_wp2
          go_meet
          exact HM.out
  case rest =>
    have HB := hid hcut
    clear hcut H1
    go_wp2_with fail
    refine (pawake_any _).mono ?_
    rintro e w2 ⟨rfl, h2⟩
    have HB2 := hid (Below.on HB.out h2)
    clear h2
    go_wp2
    go_ret
    exact ⟨rfl, HB2.out⟩

theorem walk (a : Option Addr) (n c : Nat) (l : List Int) (w : World) (hr : RdI .i64 w a n c l) (_ : c * 8 ≤ 140737488351232) :
    Calls Try.prog 5 #[.slice a n c] w fun e w' => e = .returned (.bool true) ∧ Below w.heap.size w w' := core a n c l w (rz_of_rdi hr)
end Go.Proofs.Ythoonceohipikaa.pingAsks
