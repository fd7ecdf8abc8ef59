/- Where a number stands in a slice: slices.Index. -/
import Derived.Test.YtnlaegleekghmaaDoorOrdA
namespace Go.Proofs.YtnlaegleekghmaaDoor
open Go Go.RowKit

/-- Where one stands, as a number. -/
def zxI (k : Int) (l : List Int) : Int := match zx k l with
  | some i => i
  | none => -1

set_option maxRecDepth 100000 in
theorem zindex_any (a : Option Addr) (n c : Nat) (l : List Int) (k : Int) (w : World) (h : Rz w a n c l) :
    Calls Tryd.prog 37 #[.slice a n c, .int .i64 k] w fun e w' => e = .returned (.int .i64 (zxI k l)) ∧ w' = w := by
  have hn63 := h.small.1
  have H := hid h
  have HL := hid h.len
  clear h
  go_enter Tryd.func37, Tryd.ntmps37
  go_wp2
  go_loopw [8] (fun i wr => ∃ j : Nat, i = .int .i64 j ∧ j ≤ n ∧ (∀ i y, i < j → l[i]? = some y → y ≠ k) ∧ wr = w) (fun i _ => n - (numOf i).toNat)
  case atStart => exact ⟨0, rfl, by omega, fun i y hi => absurd hi (by omega), rfl⟩
  case round =>
    obtain ⟨j, rfl, hj, hq, rfl⟩ := hrel
    by_cases hgo : j < n
    · have e1 : decide ((j : Int) < n) = true := decide_eq_true (by omega)
      have e2 : (j : Int) < n := by omega
      obtain ⟨bl, off, x, rfl, _, hx, c0⟩ := H.out.at_ hgo
      have HX := hid hx
      have HQ := hid hq
      clear hx hq
      cases hs : (k == x)
      · have hne : x ≠ k := fun e => by simp [e] at hs
        have HN : Hid (∀ i y, i < j + 1 → l[i]? = some y → y ≠ k) := fun i y hi hy => by
          rcases Nat.lt_or_ge i j with h' | h'
          · exact HQ.out i y h' hy
          · obtain rfl : i = j := by omega
            rw [HX.out] at hy
            cases hy
            exact hne
        clear hne
        go_wp2
        go_roundw
        case rel => exact ⟨j + 1, by go_num, by omega, HN.out, trivial⟩
        case measure => simp [numOf]; omega
      · have HE : Hid (zxI k l = j) := by
          have hke : x = k := by simpa using (beq_iff_eq.1 hs).symm
          rw [Hid, zxI, zx_drop HQ.out, zx_at HX.out, if_pos hke]
          simp
        go_wp2
        go_ret
        rw [HE.out]
        exact ⟨rfl, rfl⟩
    · have e1 : decide ((j : Int) < n) = false := decide_eq_false (by omega)
      have HE : Hid (zxI k l = -1) := by
        rw [Hid, zxI, zx_drop hq, List.drop_eq_nil_of_le (by rw [HL.out]; omega)]
        rfl
      clear hq
      go_wp2
      go_ret
      rw [HE.out]
      exact ⟨rfl, rfl⟩
end Go.Proofs.YtnlaegleekghmaaDoor
