/- Place; SigNames' facts on the tables, without the program. -/
import Derived.Test.YtadklnjkkmfhdaaDoorSigE
namespace Go.Proofs.YtadklnjkkmfhdaaDoor
open Go Go.RowKit

theorem place (w : World) (v n : Int) (hn : 0 < n) (hm : n ≤ 1000) : Calls Tryd.prog 19 #[.int .i64 v, .int .i64 n] w fun e w' => e = .returned (.int .i64 (v % n)) ∧ w' = w := by
  have h0 : ¬ n = 0 := by omega
  have hne : ¬ n = -1 := by omega
  have hr1 := Int.tmod_lt_of_pos v hn
  have hr2 : -n < v.tmod n := by
    have := Int.lt_tmod_of_pos v hn
    omega
  have he : v % n = if v.tmod n < 0 then v.tmod n + n else v.tmod n := by
    have e1 : v % n = (v.tmod n) % n := by
      conv => lhs; rw [← Int.tmod_add_mul_tdiv v n]
      rw [Int.add_mul_emod_self_left]
    rw [e1]
    split
    · rw [← Int.add_emod_right, Int.emod_eq_of_lt (by omega) (by omega)]
    · rw [Int.emod_eq_of_lt (by omega) (by omega)]
  by_cases hneg : v.tmod n < 0
  · rw [if_pos hneg] at he
    go_enter Tryd.func19, Tryd.ntmps19
    go_wp2
    go_ret
    exact ⟨ret_i he.symm, rfl⟩
  · rw [if_neg hneg] at he
    go_enter Tryd.func19, Tryd.ntmps19
    go_wp2
    go_ret
    exact ⟨rfl, rfl⟩

/-- The world with Error's list. -/
abbrev wL (w : World) (es : List Addr) : World := w.alloc (.cells #[erv es 1, erv es 2, erv es 3, erv es 4, erv es 5, erv es 6, erv es 7, erv es 8, erv es 9, erv es 10, erv es 11, erv es 12, erv es 13, erv es 14, erv es 15, erv es 16] 47)

def cnt (l : List UInt8) : Nat := l.count 110

theorem cnt_take (s : List UInt8) (m : Nat) (c : UInt8) (h : s[m]? = some c) : cnt (s.take (m + 1)) = cnt (s.take m) + if c = 110 then 1 else 0 := by
  rw [cnt, cnt, List.take_add_one, h, List.count_append]
  simp only [Option.toList_some, List.count_singleton]
  by_cases hc : c = 110
  · simp [hc]
  · simp [hc]

/-- What SigNames says of the names. -/
theorem names_back : ∀ k < 17, faceOf ⟨(nmS ((k : Nat) + 1 : Nat)).toArray⟩ = k + 1 ∧ nmS ((k : Nat) + 1 : Nat) ≠ [] ∧ faceOf ⟨(nmS ((k : Nat) + 1 : Nat) ++ [95]).toArray⟩ = 0 ∧ (nmS ((k : Nat) + 1 : Nat)).length ≤ 20 := by decide +kernel

/-- What SigNames says of the requests. -/
def okReq (k o : Nat) : Prop := match rqAt k o with
  | none => True
  | some x => (x.2.2 = true → x.1 = [] ∧ (o = 0 ∨ k = 6 ∧ o = 1)) ∧ 0 ≤ x.2.1 ∧ (0 < x.2.1 → cnt x.1 = 1 ∧ k ≠ 2) ∧ (x.2.1 = 0 → cnt x.1 = 0 ∨ cnt x.1 = 1 ∧ k = 2)
instance (k o : Nat) : Decidable (okReq k o) := by
  unfold okReq
  split <;> infer_instance
theorem okReqs : ∀ k < 18, ∀ o < 6, okReq k o := by decide +kernel
end Go.Proofs.YtadklnjkkmfhdaaDoor
