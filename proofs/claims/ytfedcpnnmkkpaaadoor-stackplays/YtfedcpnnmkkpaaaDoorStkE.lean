/- The law's own 'below': the one just below, from the lowest one on. -/
import Derived.Test.YtfedcpnnmkkpaaaDoorStkD
namespace Go.Proofs.YtfedcpnnmkkpaaaDoor
open Go Go.RowKit

theorem bw_hit {k : Int} : ∀ {l : List Int} {j : Nat} {x : Int}, (∀ i y, i < j → l[i + 1]? = some y → y ≠ k) → l[j + 1]? = some k → l[j]? = some x → bw k l = some x
  | [], j, x, _, h, _ => by simp at h
  | [a], j, x, _, h, _ => by simp at h
  | a :: b :: t, j, x, h, h1, h2 => by
    cases j with
    | zero =>
      simp only [Nat.zero_add, List.getElem?_cons_succ, List.getElem?_cons_zero, Option.some.injEq] at h1 h2
      show (if b = k then some a else _) = some x
      rw [if_pos h1, h2]
    | succ j =>
      have hne : b ≠ k := h 0 b (by omega) rfl
      show (if b = k then some a else bw k (b :: t)) = some x
      rw [if_neg hne]
      exact bw_hit (j := j) (fun i y hi hy => h (i + 1) y (by omega) (by simpa using hy)) (by simpa using h1) (by simpa using h2)
theorem bw_miss {k : Int} : ∀ {l : List Int}, (∀ i y, l[i + 1]? = some y → y ≠ k) → bw k l = none
  | [], _ => rfl
  | [a], _ => rfl
  | a :: b :: t, h => by
    have hne : b ≠ k := h 0 b rfl
    show (if b = k then some a else bw k (b :: t)) = none
    rw [if_neg hne]
    exact bw_miss (fun i y hy => h (i + 1) y (by simpa using hy))

variable {w w' : World} {p : Nat} {l m : List Int} {a : Option Addr} {n c : Nat}
set_option maxRecDepth 100000 in
theorem kbelow_any (hr : Rz w a n c l) (hl : l.Nodup) (id : Int) :
    Calls Tryd.prog 15 #[.slice a n c, .int .i64 id] w fun e w' => e = .returned (.int .i64 (nxt l id)) ∧ w' = w := by
  have hs := hr.small
  have HR := hid hr
  have HN : Hid (nxt l id = (bw id l).getD (topZ l)) := by rw [Hid, bw_nx hl, nxt]
  clear hl
  cases n with
  | zero =>
    obtain rfl : l = [] := List.eq_nil_of_length_eq_zero hr.len
    clear hr
    go_enter Tryd.func15, Tryd.ntmps15
    go_wp2
    go_ret
    exact ⟨rfl, rfl⟩
  | succ N =>
    have HL := hid hr.len
    obtain ⟨b0, off0, z0, rfl, hb0, hz0, c0⟩ := hr.at_ (j := N) (by omega)
    have HT : Hid (topZ l = z0) := by rw [Hid, topZ_last, hr.len, Nat.add_sub_cancel, hz0]; rfl
    clear hr hz0
    have e0 : (((N + 1 : Nat) : Int) == 0) = false := by simp; omega
    obtain ⟨M, hM⟩ : ∃ M, M = N + 1 := ⟨_, rfl⟩
    have hMN : ((M : Nat) : Int) - 1 = (N : Nat) := by omega
    rw [← hM] at e0 HL HR hs ⊢
    have HM := hid hM
    have hM1 : N < M ∧ M ≤ N + 1 := by omega
    clear hM
    go_enter Tryd.func15, Tryd.ntmps15
    go_wp2
    go_loopw [5] (fun i wr => ∃ j : Nat, i = .int .i64 ((j + 1 : Nat) : Int) ∧ j + 1 ≤ M ∧ (∀ i y, i < j → l[i + 1]? = some y → y ≠ id) ∧ wr = w) (fun i _ => M - (numOf i).toNat)
    case atStart => exact ⟨0, rfl, by omega, fun i y hi => absurd hi (by omega), rfl⟩
    case round =>
      obtain ⟨j, rfl, hj, hq, rfl⟩ := hrel
      have HQ := hid hq
      clear hq
      obtain ⟨J, hJ⟩ : ∃ J, J = j + 1 := ⟨_, rfl⟩
      rw [← hJ] at hj ⊢
      have HJ := hid hJ
      have hJ0 : j < J ∧ J ≤ j + 1 := by omega
      clear hJ
      by_cases hgo : J < M
      · have e1 : decide ((J : Int) < M) = true := decide_eq_true (by omega)
        have e2 : (J : Int) < M := by omega
        obtain ⟨b1, off1, x, he, _, hx, c1⟩ := HR.out.at_ hgo
        cases he
        obtain ⟨b2, off2, y, he, _, hy, c2⟩ := HR.out.at_ (j := j) (by omega)
        cases he
        cases hs2 : (x == id)
        · have HQ2 : Hid (∀ i y, i < j + 1 → l[i + 1]? = some y → y ≠ id) := fun i y' hi hy' => by
            rcases Nat.lt_or_ge i j with h' | h'
            · exact HQ.out i y' h' hy'
            · obtain rfl : i = j := by omega
              rw [HJ.out, hy'] at hx
              cases hx
              exact fun e => by simp [e] at hs2
          clear hx hy c2
          go_wp2
          go_roundw
          case rel => exact ⟨J, by go_num, by omega, by rw [HJ.out]; exact HQ2.out, trivial⟩
          case measure => simp [numOf]; omega
        · have HE : Hid (nxt l id = y) := by
            obtain rfl : x = id := by simpa using hs2
            rw [Hid, HN.out, bw_hit HQ.out (by rw [← HJ.out]; exact hx) hy]
            rfl
          have hJ1 : ((J : Nat) : Int) - 1 = (j : Nat) := by omega
          have e3 : (j : Int) < M := by omega
          clear hx hy
          go_wp2
          go_ret
          rw [HE.out]
          exact ⟨rfl, rfl⟩
      · have e1 : decide ((J : Int) < M) = false := decide_eq_false (by omega)
        have HE : Hid (nxt l id = z0) := by
          rw [Hid, HN.out, bw_miss (fun i y hy => HQ.out i y (by
            have := (List.getElem?_eq_some_iff.1 hy).1
            rw [HL.out] at this
            omega) hy)]
          exact HT.out
        have e3 : (N : Int) < M := by omega
        go_wp2
        go_ret
        rw [HE.out]
        exact ⟨rfl, rfl⟩
end Go.Proofs.YtfedcpnnmkkpaaaDoor
