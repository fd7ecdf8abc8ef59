/- The contracts of slices.Equal at int and of the program's mix. -/
import Derived.Test.YtlkodgmnhphfcaaRgnM
namespace Go.Proofs.Ytlkodgmnhphfcaa
open Go Go.RowKit

/-- The same numbers. -/
def eqi (a b : List Int) : Bool := decide (a = b)
theorem eqi_cons (x y : Int) (a b : List Int) : eqi (x :: a) (y :: b) = (x == y && eqi a b) := by
  rw [Bool.eq_iff_iff]
  simp [eqi]
theorem eqi_len {a b : List Int} (h : a.length ≠ b.length) : eqi a b = false := by
  rw [eqi, decide_eq_false]
  intro e
  exact h (by rw [e])

set_option maxRecDepth 100000 in
set_option maxHeartbeats 1000000 in
theorem equal_any (a a' : Option Addr) (n c n' c' : Nat) (l m : List Int) (w : World) (h : RdJ w a n c l) (h' : RdJ w a' n' c' m) :
    Calls Try.prog 67 #[.slice a n c, .slice a' n' c'] w fun e w' => e = .returned (.bool (eqi l m)) ∧ ∃ q, w' = w.drewN q := by
  have hl := h.len
  have hl' := h'.len
  have hn63 := h.small.1
  have hn63' := h'.small.1
  by_cases hnn : n = n'
  · subst hnn
    have H := hid h
    have H' := hid h'
    have HL := hid hl
    have HL' := hid hl'
    clear h h' hl hl'
    go_enter Try.func67, Try.ntmps67
    go_wp2
    go_loopw [13] (fun i wr => ∃ j : Nat, i = .int .i64 j ∧ j ≤ n ∧ eqi (l.drop j) (m.drop j) = eqi l m ∧ ∃ q, wr = w.drewN q) (fun i _ => n - (numOf i).toNat)
    case atStart => exact ⟨0, rfl, by omega, rfl, 0, rfl⟩
    case round =>
      obtain ⟨j, rfl, hj, hq, q, rfl⟩ := hrel
      by_cases hgo : j < n
      · have e1 : decide ((j : Int) < n) = true := decide_eq_true (by omega)
        have e2 : (j : Int) < n := by omega
        obtain ⟨b, off, x, rfl, _, hx, c0⟩ := H.out.el hgo
        obtain ⟨b', off', y, rfl, _, hy, d0⟩ := H'.out.el hgo
        have HD : Hid (eqi l m = (x == y && eqi (l.drop (j + 1)) (m.drop (j + 1)))) := by
          rw [Hid, ← hq, drop_at hx, drop_at hy, eqi_cons]
        clear hx hy hq
        cases hs : (x == y)
        · have HE : Hid (eqi l m = false) := by rw [Hid, HD.out, hs]; rfl
          go_wp2
          go_quiet (fail)
          go_wp2
          go_ret
          rw [HE.out, World.drewN_drewN]
          exact ⟨rfl, _, rfl⟩
        · have HE : Hid (eqi (l.drop (j + 1)) (m.drop (j + 1)) = eqi l m) := by rw [Hid, HD.out, hs]; rfl
          go_wp2
          go_quiet (fail)
          go_wp2
          go_roundw
          case rel => exact ⟨j + 1, by go_num, by omega, HE.out, _, rfl⟩
          case measure => simp [numOf]; omega
      · have e1 : decide ((j : Int) < n) = false := decide_eq_false (by omega)
        have HE : Hid (eqi l m = true) := by
          rw [Hid, ← hq, List.drop_eq_nil_of_le (by rw [HL.out]; omega), List.drop_eq_nil_of_le (by rw [HL'.out]; omega)]
          rfl
        clear hq
        go_wp2
        go_ret
        rw [HE.out]
        exact ⟨rfl, _, rfl⟩
  · have HE : Hid (eqi l m = false) := eqi_len (by omega)
    have e1 : ((n : Int) == n') = false := by simp; omega
    clear h h' hl hl'
    go_enter Try.func67, Try.ntmps67
    go_wp2
    go_ret
    rw [HE.out]
    exact ⟨rfl, 0, rfl⟩

/-- One step of mix: whether the first is taken, the second, and the rest. -/
def tk1 (a b : List Int) : Bool := match a with
  | [] => false
  | x :: _ => x == lst a b
theorem mix_nil (f : Bool → Bool → Bool) (p q r : Bool) : mix f p q r [] [] = [] := by rw [mix]
def bx (p q : Bool) : Bool := if q = true then !p else p
def dn (p : Bool) (l : List Int) : List Int := if p = true then l.tail else l
theorem mix_step (f : Bool → Bool → Bool) (p q r : Bool) (a b : List Int) (h : a ≠ [] ∨ b ≠ []) :
    mix f p q r a b = if f (bx p (tk1 a b)) (bx q (tk1 b a)) = r then mix f (bx p (tk1 a b)) (bx q (tk1 b a)) r (dn (tk1 a b) a) (dn (tk1 b a) b) else lst a b :: mix f (bx p (tk1 a b)) (bx q (tk1 b a)) (!r) (dn (tk1 a b) a) (dn (tk1 b a) b) := by
  match a, b with
  | [], [] => simp at h
  | x :: a, [] => rw [mix]; simp [tk1, lst, bx, dn]
  | [], y :: b => rw [mix]; simp [tk1, lst, bx, dn]
  | x :: a, y :: b =>
    rw [mix]
    rcases Int.lt_trichotomy x y with h1 | h1 | h1
    · have e1 : tk1 (x :: a) (y :: b) = true := by simp [tk1, lst]; omega
      have e2 : tk1 (y :: b) (x :: a) = false := by simp [tk1, lst]; omega
      have e3 : lst (x :: a) (y :: b) = x := by simp [lst]; omega
      rw [if_pos h1, e1, e2, e3]
      simp [bx, dn]
    · subst h1
      have e1 : tk1 (x :: a) (x :: b) = true := by simp [tk1, lst]
      have e2 : tk1 (x :: b) (x :: a) = true := by simp [tk1, lst]
      have e3 : lst (x :: a) (x :: b) = x := by simp [lst]
      rw [if_neg (by omega), if_neg (by omega), e1, e2, e3]
      simp [bx, dn]
    · have e1 : tk1 (x :: a) (y :: b) = false := by simp [tk1, lst]; omega
      have e2 : tk1 (y :: b) (x :: a) = true := by simp [tk1, lst]; omega
      have e3 : lst (x :: a) (y :: b) = y := by simp [lst]; omega
      rw [if_neg (by omega), if_pos h1, e1, e2, e3]
      simp [bx, dn]
end Go.Proofs.Ytlkodgmnhphfcaa
