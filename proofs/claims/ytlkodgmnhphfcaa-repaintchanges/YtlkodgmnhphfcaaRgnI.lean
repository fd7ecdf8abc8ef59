/- The contracts of the program's follows, sameSpan, first, touch. -/
import Derived.Test.YtlkodgmnhphfcaaRgnH
namespace Go.Proofs.Ytlkodgmnhphfcaa
open Go Go.RowKit

theorem drop_at {α : Type} {l : List α} {j : Nat} {x : α} (h : l[j]? = some x) : l.drop j = x :: l.drop (j + 1) := by
  have hj : j < l.length := (List.getElem?_eq_some_iff.1 h).1
  rw [List.drop_eq_getElem_cons hj]
  rw [List.getElem?_eq_getElem hj] at h
  rw [Option.some.inj h]

set_option maxRecDepth 100000 in
theorem follows_any (a r : Rc) (hx : -9223372036854775808 ≤ a.x + a.w ∧ a.x + a.w ≤ 9223372036854775807) (hy : -9223372036854775808 ≤ a.y + a.h ∧ a.y + a.h ≤ 9223372036854775807) (w : World) :
    Calls Try.prog 61 #[.agg #[.int .i64 a.x, .int .i64 a.y, .int .i64 a.w, .int .i64 a.h], .agg #[.int .i64 r.x, .int .i64 r.y, .int .i64 r.w, .int .i64 r.h]] w fun e w' => e = .returned (.bool (flw a r)) ∧ Below w.heap.size w w' := by
  have HB : Hid (Below w.heap.size w ((w.alloc (ob a)).alloc (ob r))) := (box2 a r (Below.refl _ _)).2.2
  unfold ob at HB
  unfold flw
  cases h1 : (r.y == a.y)
  · rw [if_neg (by simpa using h1)]
    go_enter Try.func61, Try.ntmps61
    go_wp2
    go_ret
    exact ⟨rfl, HB.out⟩
  · rw [if_pos (by simpa using h1)]
    cases h2 : (r.h == a.h)
    · rw [decide_eq_false (by simpa using h2)]
      go_enter Try.func61, Try.ntmps61
      go_wp2
      go_ret
      exact ⟨rfl, HB.out⟩
    · rw [decide_eq_true (by simpa using h2)]
      go_enter Try.func61, Try.ntmps61
      go_wp2
      go_ret
      exact ⟨rfl, HB.out⟩

/-- The same X and W. -/
def ssp (a b : Rc) : Bool := decide (a.x = b.x) && decide (a.w = b.w)

set_option maxRecDepth 100000 in
theorem samespan_any (a r : Rc) (w : World) :
    Calls Try.prog 74 #[.agg #[.int .i64 a.x, .int .i64 a.y, .int .i64 a.w, .int .i64 a.h], .agg #[.int .i64 r.x, .int .i64 r.y, .int .i64 r.w, .int .i64 r.h]] w fun e w' => e = .returned (.bool (ssp a r)) ∧ Below w.heap.size w w' := by
  have HB : Hid (Below w.heap.size w ((w.alloc (ob a)).alloc (ob r))) := (box2 a r (Below.refl _ _)).2.2
  unfold ob at HB
  unfold ssp
  cases h1 : (a.x == r.x)
  · rw [decide_eq_false (by simpa using h1)]
    go_enter Try.func74, Try.ntmps74
    go_wp2
    go_ret
    exact ⟨rfl, HB.out⟩
  · rw [decide_eq_true (by simpa using h1)]
    go_enter Try.func74, Try.ntmps74
    go_wp2
    go_ret
    exact ⟨rfl, HB.out⟩

/-- How long the first band is, of those behind its first. -/
def bl (y : Int) (t : List Rc) : Nat := (t.takeWhile fun a => decide (a.y = y)).length
theorem bl_cons (y : Int) (r : Rc) (t : List Rc) : bl y (r :: t) = if r.y = y then bl y t + 1 else 0 := by
  unfold bl
  rw [List.takeWhile_cons]
  by_cases h : r.y = y
  · rw [if_pos (by simp [h]), if_pos h, List.length_cons]
  · rw [if_neg (by simp [h]), if_neg h]; rfl
theorem bl_nil (y : Int) : bl y [] = 0 := rfl
theorem band_len (r : Rc) (t : List Rc) : (band r t).length = bl r.y t + 1 := rfl
theorem band_take (r : Rc) (t : List Rc) : (r :: t).take (bl r.y t + 1) = band r t := by
  rw [← band_len, ← band_behind, List.take_left]
theorem band_drop (r : Rc) (t : List Rc) : (r :: t).drop (bl r.y t + 1) = behind r t := by
  rw [← band_len, ← band_behind, List.drop_left]

set_option maxRecDepth 100000 in
set_option maxHeartbeats 1000000 in
theorem first_any (a : Option Addr) (n c : Nat) (r : Rc) (t : List Rc) (w : World) (hr : RdC w a n c (r :: t)) :
    Calls Try.prog 71 #[.slice a n c] w fun e w' => e = .returned (.slice a (bl r.y t + 1) c) ∧ ∃ q, w' = w.drewN q := by
  have hn := hr.len
  obtain ⟨hn63, hc63⟩ := hr.small
  have hle := hr.le
  obtain ⟨b, off, rfl, hb, hel⟩ := hr.pl (by rw [← hn]; simp)
  have HE := hid hel
  have h0 := hel 0 r rfl
  have HL : Hid (bl r.y t + 1 ≤ n) := by
    rw [Hid, ← hn, List.length_cons]
    have := (List.takeWhile_sublist (p := fun a : Rc => decide (a.y = r.y)) (l := t)).length_le
    unfold bl
    omega
  obtain ⟨_, _, y0, _, _⟩ := h0
  simp only [Nat.zero_mul, Nat.add_zero] at y0
  clear hr hel
  go_enter Try.func71, Try.ntmps71
  go_wp2
  go_loopw [3] (fun i wr => ∃ k : Nat, i = .int .i64 k ∧ k + bl r.y ((r :: t).drop k) = bl r.y t + 1 ∧ 1 ≤ k ∧ k ≤ n ∧ ∃ q, wr = w.drewN q) (fun i _ => n - (numOf i).toNat)
  case atStart => exact ⟨1, rfl, by rw [List.drop_one, List.tail_cons]; omega, by omega, by rw [← hn]; simp, 0, rfl⟩
  case round =>
    obtain ⟨k, rfl, hk, hk1, hkn, q, rfl⟩ := hrel
    by_cases hgo : k < n
    · have e1 : decide ((k : Int) < n) = true := decide_eq_true (by omega)
      have hkl : k < (r :: t).length := by omega
      obtain ⟨s, hs⟩ : ∃ s, (r :: t)[k]? = some s := ⟨_, List.getElem?_eq_getElem hkl⟩
      have HD : Hid ((r :: t).drop k = s :: (r :: t).drop (k + 1)) := by rw [Hid, List.drop_eq_getElem_cons hkl]; congr 1; rw [List.getElem?_eq_getElem hkl] at hs; exact Option.some.inj hs
      obtain ⟨_, _, y1, _, _⟩ := HE.out k s hs
      have HK := hid hk
      clear hk hs hkl hn
      cases hq : (s.y == r.y)
      · have HK2 : Hid (bl r.y t + 1 = k) := by
          have := HK.out
          rw [HD.out, bl_cons, if_neg (by simpa using hq)] at this
          exact this.symm
        go_wp2
        go_quiet (fail)
        go_wp2
        go_ret
        rw [HK2.out]
        exact ⟨rfl, _, rfl⟩
      · have HK2 : Hid (k + 1 + bl r.y ((r :: t).drop (k + 1)) = bl r.y t + 1) := by
          have := HK.out
          rw [HD.out, bl_cons, if_pos (by simpa using hq)] at this
          rw [Hid]
          omega
        go_wp2
        go_quiet (fail)
        go_wp2
        go_roundw
        case rel => exact ⟨k + 1, by go_num, HK2.out, by omega, by omega, _, rfl⟩
        case measure => simp [numOf]; omega
    · have e1 : decide ((k : Int) < n) = false := decide_eq_false (by omega)
      obtain rfl : k = n := by omega
      have HK2 : Hid (bl r.y t + 1 = k) := by rw [List.drop_eq_nil_of_le (by omega), bl_nil] at hk; exact hk.symm
      clear hk hn
      go_wp2
      go_quiet (fail)
      go_wp2
      go_ret
      rw [HK2.out]
      exact ⟨rfl, _, rfl⟩
end Go.Proofs.Ytlkodgmnhphfcaa
