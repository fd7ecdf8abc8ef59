/- For every a and b: WordFixed returns true (a whole number, fixed, is that number again just where there is room; the order stays; a fixed number is a multiple of 256), and the arguments read behind the call as before it. No condition. -/
import Derived.Test.YtmddkaemknoepaaWordC
namespace Go.Proofs.Ytmddkaemknoepaa.wordFixed
open Go Go.ChangeShapes Go.WideShapes Go.ChangeAt Go.RowKit

theorem fixed_bd (n : Int) : -2147483648 ≤ fixed n ∧ fixed n ≤ 2147483392 := by unfold fixed; omega

theorem same_in (a : Int) (h1 : -8388608 ≤ a) (h2 : a < 8388608) : (fixed a / 256 == a) = true := by
  unfold fixed
  rw [Int.mul_ediv_cancel _ (by decide), beq_iff_eq]
  omega
theorem same_out (a : Int) (h : a < -8388608 ∨ 8388608 ≤ a) : (fixed a / 256 == a) = false := by
  unfold fixed
  rw [Int.mul_ediv_cancel _ (by decide), beq_eq_false_iff_ne]
  omega
theorem ord (a b : Int) (h : a ≤ b) : fixed a ≤ fixed b := by unfold fixed; omega
theorem mod (a : Int) : ((fixed a).tmod 256 == 0) = true := by
  unfold fixed
  rw [beq_iff_eq, Int.mul_tmod_left]

set_option maxRecDepth 100000 in
theorem core (a b : Int) (w : World) (x : Bool) (hx : (fixed a / 256 == a) = x) (h : (a < -8388608 ∧ x = false) ∨ (-8388608 ≤ a ∧ a < 8388608 ∧ x = true) ∨ (8388608 ≤ a ∧ x = false)) :
    Calls Try.prog 3 #[.int .i64 a, .int .i64 b] w fun e w' => e = .returned (.bool true) ∧ Below w.heap.size w w' := by
  obtain ⟨bd1, bd2⟩ := fixed_bd a
  have hm := mod a
  have hord := ord a b
  have F : Hid (∀ n u, Calls Try.prog 4 #[.int .i64 n] u fun e w' => e = .returned (.int .i32 (fixed n)) ∧ w' = u) := fixed_any
  rcases h with ⟨h, rfl⟩ | ⟨h, h', rfl⟩ | ⟨h, rfl⟩
  all_goals
    by_cases hb : b < a
    all_goals
      first | (have hc : fixed a ≤ fixed b := hord (by omega)) | skip
      clear hord
      first | (have hd : decide (a < 8388608) = false := decide_eq_false (by omega)) | skip
      go_enter Try.func3, Try.ntmps3
      go_wp2_with (first | (go_at_call 4; refine (F.out _ _).mono ?_; rintro e w' ⟨rfl, rfl⟩) | (go_at_call 5; refine (whole_any _ bd1 (by omega) _).mono ?_; rintro e w' ⟨rfl, rfl⟩) | (go_at_call 6; refine (awake_any _).mono ?_; rintro e w' ⟨rfl, hbel⟩))
      go_ret
      exact ⟨rfl, by assumption⟩

theorem walk (a b : Int) (w : World) (_ : (Lit.int .i64 a).wf = true) (_ : (Lit.int .i64 b).wf = true) :
    Calls Try.prog 3 #[.int .i64 a, .int .i64 b] w fun e w' => e = .returned (.bool true) ∧ Below w.heap.size w w' := by
  rcases (show a < -8388608 ∨ (-8388608 ≤ a ∧ a < 8388608) ∨ 8388608 ≤ a by omega) with h | ⟨h, h'⟩ | h
  · exact core a b w false (same_out a (.inl h)) (.inl ⟨h, rfl⟩)
  · exact core a b w true (same_in a h h') (.inr (.inl ⟨h, h', rfl⟩))
  · exact core a b w false (same_out a (.inr h)) (.inr (.inr ⟨h, rfl⟩))
end Go.Proofs.Ytmddkaemknoepaa.wordFixed
