/- The law's far: some truth. -/
import Derived.Test.YtegmolmjoiklpaaSeL
namespace Go.Proofs.Ytegmolmjoiklpaa
open Go Go.RowKit Go.Shelf

def FarR (w w' : World) (e : Ending) : Prop := RowKit.Below w.heap.size w w' ∧ ∃ q : Bool, e = .returned (.bool q)
set_option maxRecDepth 100000 in
set_option maxHeartbeats 2000000 in
theorem far_any (a : Option Addr) (n c : Nat) (L : List Rw) (w : World) (h : RdR w a n c L) :
    Calls Try.prog 9 #[.slice a n c] w fun e w' => FarR w w' e := by
  have hs := h.small
  have H := hid h
  clear h
  go_enter Try.func9, Try.ntmps9
  go_wp2
  go_loopw [3] (fun i wr => ∃ j : Nat, i = .int .i64 j ∧ j ≤ n ∧ RowKit.Below w.heap.size w wr) (fun i _ => n - (numOf i).toNat)
  case atStart => exact ⟨0, rfl, by omega, Below.refl _ _⟩
  case round =>
    obtain ⟨j, rfl, hj, hbl⟩ := hrel
    obtain ⟨W0, rfl⟩ : ∃ W0, W0 = wr := ⟨_, rfl⟩
    have HB := hid hbl
    clear hbl
    by_cases hgo : j < n
    · have e1 : decide ((j : Int) < (n : Int)) = true := decide_eq_true (by omega)
      have e3 : (j : Int) < (n : Int) := by omega
      obtain ⟨b, off, ⟨ra, rn, rc, rl⟩, rfl, hb, hr, hrd, c0⟩ := (H.out.on HB.out).at_ hgo
      simp only at hrd c0
      have hrs := hrd.small
      have HRD := hid hrd
      clear hrd hr
      go_wp2
      go_loopw [4] (fun i wr => ∃ k : Nat, i = .int .i64 k ∧ k ≤ rn ∧ RowKit.Below W0.heap.size W0 wr) (fun i _ => rn - (numOf i).toNat)
      case atStart => exact ⟨0, rfl, by omega, Below.refl _ _⟩
      case round =>
        obtain ⟨k, rfl, hk, hbk⟩ := hrel
        have HBK := hid hbk
        have c1 : wr.cell? ⟨b, off + j, none⟩ = some (.slice ra rn rc) := by rw [hbk.cell hb]; exact c0
        clear hbk
        by_cases hgo2 : k < rn
        · have e6 : decide ((k : Int) < (rn : Int)) = true := decide_eq_true (by omega)
          have e7 : (k : Int) < (rn : Int) := by omega
          obtain ⟨b2, off2, x, hra, hb2, hx, hok, hrg, hcx⟩ := (HRD.out.on HBK.out).at_ hgo2
          obtain ⟨d0, d1, d2, d3, d4, d5, d6⟩ := hcx
          subst hra
          have HB3 := hid (Below.on HBK.out (bel_nw wr (.cells #[.int .i64 x.s, .int .i64 x.x, .int .i64 x.y, .int .i64 x.w, .int .i64 x.h, .bool x.t, .slice x.a x.n x.c] 66)))
          have HB4 := hid (Below.on HB.out HB3.out)
          clear hx hok hrg
          cases t1 : decide ((1099511627776 : Int) < max x.x x.y)
          · cases t2 : decide (min x.x x.y < (-1099511627776 : Int))
            · go_wp2
              go_roundw
              case rel => exact ⟨k + 1, by go_num, by omega, HB3.out⟩
              case measure => simp [numOf]; omega
            · go_wp2
              go_ret
              exact ⟨HB4.out, _, rfl⟩
          · go_wp2
            go_ret
            exact ⟨HB4.out, _, rfl⟩
        · have e6 : decide ((k : Int) < (rn : Int)) = false := decide_eq_false (by omega)
          go_wp2
          go_roundw
          case rel => exact ⟨j + 1, by go_num, by omega, Below.on HB.out HBK.out⟩
          case measure => simp [numOf]; omega
    · have e1 : decide ((j : Int) < (n : Int)) = false := decide_eq_false (by omega)
      go_wp2
      go_ret
      exact ⟨HB.out, _, rfl⟩
end Go.Proofs.Ytegmolmjoiklpaa
