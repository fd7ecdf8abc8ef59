/- Place, Error, Wrap, New, and the words of errors. -/
import Derived.Test.YtghccfgoiejajaaDoorFltI
namespace Go.Proofs.YtghccfgoiejajaaDoor
open Go Go.RowKit

theorem place (w : World) (v n : Int) (hn : 0 < n) (hm : n ≤ 1000) : Calls Tryd.prog 12 #[.int .i64 v, .int .i64 n] w fun e w' => e = .returned (.int .i64 (v % n)) ∧ w' = w := by
  have h0 : ¬ n = 0 := by omega
  have hne : ¬ n = -1 := by omega
  have hr1 := Int.tmod_lt_of_pos v hn
  have hr2 : -n < v.tmod n := by
    have := Int.lt_tmod_of_pos v hn
    omega
  have he : v % n = if v.tmod n < 0 then v.tmod n + n else v.tmod n := by
    have e1 : v % n = (v.tmod n) % n := by
      conv => lhs; rw [← Int.tmod_add_mul_tdiv v n]
      rw [Int.add_mul_emod_self_left]
    rw [e1]
    split
    · rw [← Int.add_emod_right, Int.emod_eq_of_lt (by omega) (by omega)]
    · rw [Int.emod_eq_of_lt (by omega) (by omega)]
  by_cases hneg : v.tmod n < 0
  · rw [if_pos hneg] at he
    go_enter Tryd.func12, Tryd.ntmps12
    go_wp2
    go_ret
    exact ⟨ret_int' he.symm, rfl⟩
  · rw [if_neg hneg] at he
    go_enter Tryd.func12, Tryd.ntmps12
    go_wp2
    go_ret
    exact ⟨rfl, rfl⟩

/-- The world with Error's list. -/
abbrev wL (w : World) (es : List Addr) : World := w.alloc (.cells #[erv es 1, erv es 2, erv es 3, erv es 4, erv es 5, erv es 6, erv es 7, erv es 8, erv es 9, erv es 10, erv es 11, erv es 12, erv es 13, erv es 14, erv es 15, erv es 16] 47)
theorem wL_below (w : World) (es : List Addr) : Below w.heap.size w (wL w es) := (Below.refl _ _).alloc (Nat.le_refl _) _
theorem wL_cell (w : World) (es : List Addr) (k : Nat) (hk : k < 16) : (wL w es).cell? ⟨w.heap.size, k, none⟩ = some (erv es (k + 1)) := by
  rw [World.cell?_alloc_at _ _ _ _ rfl]
  have h : k = 0 ∨ k = 1 ∨ k = 2 ∨ k = 3 ∨ k = 4 ∨ k = 5 ∨ k = 6 ∨ k = 7 ∨ k = 8 ∨ k = 9 ∨ k = 10 ∨ k = 11 ∨ k = 12 ∨ k = 13 ∨ k = 14 ∨ k = 15 := by omega
  rcases h with rfl | rfl | rfl | rfl | rfl | rfl | rfl | rfl | rfl | rfl | rfl | rfl | rfl | rfl | rfl | rfl
  all_goals rfl

set_option maxRecDepth 100000 in
theorem error_none (w : World) (es : List Addr) (h : Errs w gerrs es) (z : Int) (hz : z < 1 ∨ 16 < z) :
    Calls Tryd.prog 9 #[.int .i64 z] w fun e w' => e = .returned .nilIface ∧ Below w.heap.size w w' := by
  obtain ⟨x0, x1, x2, x3, x4, x5, x6, x7, x8, x9, x10, x11, x12, x13, x14, x15, rfl⟩ := len16 h.len
  have c0 := (h.each 0 _ _ rfl rfl).1
  have c1 := (h.each 1 _ _ rfl rfl).1
  have c2 := (h.each 2 _ _ rfl rfl).1
  have c3 := (h.each 3 _ _ rfl rfl).1
  have c4 := (h.each 4 _ _ rfl rfl).1
  have c5 := (h.each 5 _ _ rfl rfl).1
  have c6 := (h.each 6 _ _ rfl rfl).1
  have c7 := (h.each 7 _ _ rfl rfl).1
  have c8 := (h.each 8 _ _ rfl rfl).1
  have c9 := (h.each 9 _ _ rfl rfl).1
  have c10 := (h.each 10 _ _ rfl rfl).1
  have c11 := (h.each 11 _ _ rfl rfl).1
  have c12 := (h.each 12 _ _ rfl rfl).1
  have c13 := (h.each 13 _ _ rfl rfl).1
  have c14 := (h.each 14 _ _ rfl rfl).1
  have c15 := (h.each 15 _ _ rfl rfl).1
  clear h
  go_enter Tryd.func9, Tryd.ntmps9
  rcases hz with hz | hz
  · go_wp2
    go_ret
    exact ⟨rfl, (Below.refl _ _).alloc (Nat.le_refl _) _⟩
  · have h1 : ¬ z < 1 := by omega
    go_wp2
    go_ret
    exact ⟨rfl, (Below.refl _ _).alloc (Nat.le_refl _) _⟩

set_option maxRecDepth 100000 in
theorem error_at (w : World) (es : List Addr) (h : Errs w gerrs es) (k : Nat) (h1 : 1 ≤ k) (h2 : k ≤ 16) :
    Calls Tryd.prog 9 #[.int .i64 k] w fun e w' => e = .returned (erv es k) ∧ Below w.heap.size w w' := by
  have HL := wL_cell w es (k - 1) (by omega)
  rw [show k - 1 + 1 = k by omega] at HL
  have HB : Hid (Below w.heap.size w (wL w es)) := wL_below w es
  obtain ⟨x, hx⟩ : ∃ x, erv es k = eS x := by
    obtain ⟨i, rfl⟩ : ∃ i, k = i + 1 := ⟨k - 1, by omega⟩
    exact ⟨_, rfl⟩
  rw [hx] at HL ⊢
  clear hx
  obtain ⟨x0, x1, x2, x3, x4, x5, x6, x7, x8, x9, x10, x11, x12, x13, x14, x15, rfl⟩ := len16 h.len
  have c0 := (h.each 0 _ _ rfl rfl).1
  have c1 := (h.each 1 _ _ rfl rfl).1
  have c2 := (h.each 2 _ _ rfl rfl).1
  have c3 := (h.each 3 _ _ rfl rfl).1
  have c4 := (h.each 4 _ _ rfl rfl).1
  have c5 := (h.each 5 _ _ rfl rfl).1
  have c6 := (h.each 6 _ _ rfl rfl).1
  have c7 := (h.each 7 _ _ rfl rfl).1
  have c8 := (h.each 8 _ _ rfl rfl).1
  have c9 := (h.each 9 _ _ rfl rfl).1
  have c10 := (h.each 10 _ _ rfl rfl).1
  have c11 := (h.each 11 _ _ rfl rfl).1
  have c12 := (h.each 12 _ _ rfl rfl).1
  have c13 := (h.each 13 _ _ rfl rfl).1
  have c14 := (h.each 14 _ _ rfl rfl).1
  have c15 := (h.each 15 _ _ rfl rfl).1
  clear h
  have HC : (w.alloc (.cells #[.iface 68 (.pointer (some x0)), .iface 68 (.pointer (some x1)), .iface 68 (.pointer (some x2)), .iface 68 (.pointer (some x3)), .iface 68 (.pointer (some x4)), .iface 68 (.pointer (some x5)), .iface 68 (.pointer (some x6)), .iface 68 (.pointer (some x7)), .iface 68 (.pointer (some x8)), .iface 68 (.pointer (some x9)), .iface 68 (.pointer (some x10)), .iface 68 (.pointer (some x11)), .iface 68 (.pointer (some x12)), .iface 68 (.pointer (some x13)), .iface 68 (.pointer (some x14)), .iface 68 (.pointer (some x15))] 47)).cell? ⟨w.heap.size, k - 1, none⟩ = some (.iface 68 (.pointer (some x))) := HL
  clear HL
  have g1 : decide ((k : Int) < 1) = false := by simp; omega
  have g2 : decide ((16 : Int) < k) = false := by simp; omega
  have g3 : (k : Int) - 1 = ((k - 1 : Nat) : Int) := by omega
  have g4 : ((k - 1 : Nat) : Int) < 16 := by omega
  generalize hm : k - 1 = m at *
  go_enter Tryd.func9, Tryd.ntmps9
  go_wp2
  go_ret
  exact ⟨rfl, HB.out⟩
end Go.Proofs.YtghccfgoiejajaaDoor
