/- The document's Has, in, Same, add; SameRects. -/
import Derived.Test.YtgogpckjlfgdcabRgnU
namespace Go.Proofs.Ytgogpckjlfgdcab
open Go Go.RowKit

/-- The same rectangles. -/
def eqr : List Rc → List Rc → Bool
  | [], [] => true
  | x :: l, y :: m => rceq x y && eqr l m
  | _, _ => false
theorem eqr_cons (x y : Rc) (l m : List Rc) : eqr (x :: l) (y :: m) = (rceq x y && eqr l m) := rfl
theorem eqr_iff : ∀ {l m : List Rc}, eqr l m = true ↔ l = m
  | [], [] => by simp [eqr]
  | [], _ :: _ => by simp [eqr]
  | _ :: _, [] => by simp [eqr]
  | x :: l, y :: m => by rw [eqr, Bool.and_eq_true, rceq_iff, eqr_iff, List.cons.injEq]
theorem eqr_len {l m : List Rc} (h : l.length ≠ m.length) : eqr l m = false := by
  rw [← Bool.not_eq_true, eqr_iff]
  intro e
  exact h (by rw [e])
theorem eqr_same (l : List Rc) : eqr l l = true := eqr_iff.2 rfl


set_option maxRecDepth 100000 in
set_option maxHeartbeats 1000000 in
theorem samerects_any (a a' : Option Addr) (n c n' c' : Nat) (l m : List Rc) (w : World) (h : RdC w a n c l) (h' : RdC w a' n' c' m) :
    Calls Try.prog 7 #[.slice a n c, .slice a' n' c'] w fun e w' => e = .returned (.bool (eqr l m)) ∧ ∃ q, w' = w.drewN q := by
  have hl := h.len
  have hl' := h'.len
  have hn63 := h.small.1
  have hn63' := h'.small.1
  have hg := neqR_guard
  have hne := neqR
  by_cases hnn : n = n'
  · subst hnn
    have H := hid h
    have H' := hid h'
    have HL := hid hl
    have HL' := hid hl'
    clear h h' hl hl'
    go_enter Try.func7, Try.ntmps7
    go_wp2
    go_loopw [5] (fun i wr => ∃ j : Nat, i = .int .i64 j ∧ j ≤ n ∧ eqr (l.drop j) (m.drop j) = eqr l m ∧ ∃ q, wr = w.drewN q) (fun i _ => n - (numOf i).toNat)
    case atStart => exact ⟨0, rfl, by omega, rfl, 0, rfl⟩
    case round =>
      obtain ⟨j, rfl, hj, hq, q, rfl⟩ := hrel
      by_cases hgo : j < n
      · have e1 : decide ((j : Int) < n) = true := decide_eq_true (by omega)
        have e2 : (j : Int) < n := by omega
        obtain ⟨b, off, x, rfl, _, hx, _, hex⟩ := H.out.el hgo
        obtain ⟨b', off', y, rfl, _, hy, _, hey⟩ := H'.out.el hgo
        obtain ⟨_, c0, c1, c2, c3⟩ := hex
        obtain ⟨_, d0, d1, d2, d3⟩ := hey
        have HD : Hid (eqr l m = (rceq x y && eqr (l.drop (j + 1)) (m.drop (j + 1)))) := by
          rw [Hid, ← hq, drop_at hx, drop_at hy, eqr_cons]
        clear hx hy hq
        have hn0 := hne x y
        cases hs : rceq x y
        · rw [hs] at hn0
          have HE : Hid (eqr l m = false) := by rw [Hid, HD.out, hs]; rfl
          go_wp2
          go_quiet (fail)
          go_wp2
          go_ret
          rw [HE.out, World.drewN_drewN]
          exact ⟨rfl, _, rfl⟩
        · rw [hs] at hn0
          have HE : Hid (eqr (l.drop (j + 1)) (m.drop (j + 1)) = eqr l m) := by rw [Hid, HD.out, hs]; rfl
          go_wp2
          go_quiet (fail)
          go_wp2
          go_roundw
          case rel => exact ⟨j + 1, by go_num, by omega, HE.out, _, rfl⟩
          case measure => simp [numOf]; omega
      · have e1 : decide ((j : Int) < n) = false := decide_eq_false (by omega)
        have HE : Hid (eqr l m = true) := by
          rw [Hid, ← hq, List.drop_eq_nil_of_le (by rw [HL.out]; omega), List.drop_eq_nil_of_le (by rw [HL'.out]; omega)]
          rfl
        clear hq
        go_wp2
        go_ret
        rw [HE.out]
        exact ⟨rfl, _, rfl⟩
  · have HE : Hid (eqr l m = false) := eqr_len (by omega)
    have e1 : ((n : Int) == n') = false := by simp; omega
    clear h h' hl hl'
    go_enter Try.func7, Try.ntmps7
    go_wp2
    go_ret
    rw [HE.out]
    exact ⟨rfl, 0, rfl⟩


/-- The document's ways: 0, 1, 2. -/
def fH (how : Int) : Bool → Bool → Bool := if how = 1 then sub else if how = 2 then and else or
theorem fH_ff (how : Int) : fH how false false = false := by
  unfold fH
  split
  · rfl
  · split <;> rfl


/-- What is still to come of add. -/
def rstA (v : Int) (d : Bool) (l : List Int) : List Int := if d = true then l else addE l v
theorem rstA_lt {v k : Int} {t : List Int} (h : v < k) : rstA v false (k :: t) = v :: k :: t := by rw [rstA, if_neg (by decide), addE, if_pos h]
theorem rstA_eq {v k : Int} {t : List Int} (h : v = k) : rstA v false (k :: t) = k :: t := by rw [rstA, if_neg (by decide), addE, if_neg (by omega), if_pos h]
theorem rstA_gt {v k : Int} {t : List Int} (h : k < v) : rstA v false (k :: t) = k :: rstA v false t := by rw [rstA, if_neg (by decide), addE, if_neg (by omega), if_neg (by omega), rstA, if_neg (by decide)]

end Go.Proofs.Ytgogpckjlfgdcab
