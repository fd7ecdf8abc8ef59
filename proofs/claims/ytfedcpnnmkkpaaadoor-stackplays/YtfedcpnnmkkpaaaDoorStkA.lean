/- Windows above one another as a list: who is the uppermost one, who is just below. No program. -/
import Derived.Test.YtfedcpnnmkkpaaaDoorOrdA
namespace Go.Proofs.YtfedcpnnmkkpaaaDoor
open Go Go.RowKit

/-- The uppermost one. -/
def topZ (l : List Int) : Int := (l.reverse)[0]?.getD 0
/-- The one behind the first k, going down. -/
def nx (k : Int) : List Int → Option Int
  | x :: y :: t => if x = k then some y else nx k (y :: t)
  | _ => none
/-- What Next answers. -/
def nxt (l : List Int) (k : Int) : Int := (nx k l.reverse).getD (topZ l)
/-- The same, from the lowest one on. -/
def bw (k : Int) : List Int → Option Int
  | x :: y :: t => if y = k then some x else bw k (y :: t)
  | _ => none

theorem nx_not {k : Int} : ∀ {r : List Int} (y : Int), k ∉ r → nx k (r ++ [y]) = none
  | [], _, _ => rfl
  | [x], y, h => by
    have h1 : x ≠ k := fun e => h (by simp [e])
    show (if x = k then some y else none) = none
    rw [if_neg h1]
  | x :: z :: t, y, h => by
    have h1 : x ≠ k := fun e => h (by simp [e])
    show (if x = k then some z else nx k (z :: t ++ [y])) = none
    rw [if_neg h1]
    exact nx_not y (fun hm => h (List.mem_cons_of_mem _ hm))
theorem nx_snoc {k : Int} : ∀ (r : List Int) (y x : Int), nx k (r ++ [y] ++ [x]) = match nx k (r ++ [y]) with
    | some z => some z
    | none => if y = k then some x else none
  | [], y, x => by
    show (if y = k then some x else none) = _
    rfl
  | [a], y, x => by
    show (if a = k then some y else if y = k then some x else none) = match (if a = k then some y else none) with
      | some z => some z
      | none => if y = k then some x else none
    split <;> rfl
  | a :: b :: t, y, x => by
    show (if a = k then some b else nx k (b :: t ++ [y] ++ [x])) = match (if a = k then some b else nx k (b :: t ++ [y])) with
      | some z => some z
      | none => if y = k then some x else none
    split
    · rfl
    · exact nx_snoc (b :: t) y x
theorem bw_nx {k : Int} : ∀ {l : List Int}, l.Nodup → bw k l = nx k l.reverse
  | [], _ => rfl
  | [x], _ => rfl
  | x :: y :: t, h => by
    obtain ⟨h1, h2⟩ := List.nodup_cons.1 h
    have ih := bw_nx (k := k) h2
    show (if y = k then some x else bw k (y :: t)) = nx k (x :: y :: t).reverse
    rw [List.reverse_cons, List.reverse_cons, nx_snoc, ih, List.reverse_cons]
    by_cases hy : y = k
    · rw [if_pos hy, nx_not y (fun hm => (List.nodup_cons.1 h2).1 (hy ▸ List.mem_reverse.1 hm))]
      simp [hy]
    · rw [if_neg hy]
      simp only [hy, if_false]
      cases nx k (t.reverse ++ [y]) <;> rfl
/-- One by one below. -/
theorem nx_at : ∀ {r : List Int} {j : Nat} {x y : Int}, r.Nodup → r[j]? = some x → r[j + 1]? = some y → nx x r = some y
  | [], j, x, y, _, h, _ => by simp at h
  | [a], j, x, y, _, h, h' => by
    cases j with
    | zero => simp at h'
    | succ j => simp at h
  | a :: b :: t, j, x, y, hn, h, h' => by
    cases j with
    | zero =>
      simp only [List.getElem?_cons_zero, Option.some.injEq, List.getElem?_cons_succ, Nat.zero_add] at h h'
      show (if a = x then some b else _) = some y
      rw [if_pos h, h']
    | succ j =>
      have hne : a ≠ x := fun e => (List.nodup_cons.1 hn).1 (e ▸ List.mem_of_getElem? (by simpa using h))
      show (if a = x then some b else nx x (b :: t)) = some y
      rw [if_neg hne]
      exact nx_at (List.nodup_cons.1 hn).2 (by simpa using h) (by simpa using h')
theorem nx_last {r : List Int} {x : Int} (hn : r.Nodup) {j : Nat} (h : r[j]? = some x) (hj : j + 1 = r.length) : nx x r = none := by
  have h1 : r = r.take j ++ [x] := by
    have h2 := List.take_append_drop j r
    rw [List.drop_eq_getElem_cons (by omega), List.drop_eq_nil_of_le (by omega)] at h2
    rw [List.getElem?_eq_getElem (by omega)] at h
    rw [Option.some.inj h] at h2
    exact h2.symm
  rw [h1] at hn ⊢
  rw [List.nodup_append] at hn
  exact nx_not x (fun hm => hn.2.2 x hm x (by simp) rfl)
/-- Behind the first j none was k, and the next one is reached. -/
theorem nx_drop {k : Int} : ∀ {r : List Int} {j : Nat}, (∀ i y, i + 1 < j → r[i]? = some y → y ≠ k) → 0 < j → nx k r = match r[j - 1]? with
    | some _ => nx k (r.drop (j - 1))
    | none => none
  | [], j, _, h => by simp [nx]
  | [a], j, _, hj => by
    cases j with
    | zero => omega
    | succ j =>
      cases j with
      | zero => rfl
      | succ j => simp [nx]
  | a :: b :: t, j, h, hj => by
    cases j with
    | zero => omega
    | succ j =>
      cases j with
      | zero => rfl
      | succ j =>
        have hne : a ≠ k := h 0 a (by omega) rfl
        have ih := nx_drop (k := k) (r := b :: t) (j := j + 1) (fun i y hi hy => h (i + 1) y (by omega) (by simpa using hy)) (by omega)
        show (if a = k then some b else nx k (b :: t)) = _
        rw [if_neg hne, ih]
        simp
theorem nx_hit {k : Int} {r : List Int} {j : Nat} {x : Int} (h : ∀ i y, i + 1 < j → r[i]? = some y → y ≠ k) (hj : 0 < j) (h1 : r[j - 1]? = some k) (h2 : r[j]? = some x) : nx k r = some x := by
  rw [nx_drop h hj, h1]
  obtain ⟨i, rfl⟩ : ∃ i, j = i + 1 := ⟨j - 1, by omega⟩
  rw [Nat.add_sub_cancel] at h1 ⊢
  have q1 := List.getElem?_eq_some_iff.1 h1
  have q2 := List.getElem?_eq_some_iff.1 h2
  obtain ⟨l1, e1⟩ := q1
  obtain ⟨l2, e2⟩ := q2
  rw [List.drop_eq_getElem_cons l1, List.drop_eq_getElem_cons l2, e1, e2]
  show (if k = k then some x else _) = some x
  rw [if_pos rfl]
theorem nx_miss {k : Int} {r : List Int} (h : ∀ i y, i + 1 < r.length → r[i]? = some y → y ≠ k) : nx k r = none := by
  cases r with
  | nil => rfl
  | cons a t =>
    rw [nx_drop (j := (a :: t).length) h (by simp)]
    have hl : (a :: t).length - 1 < (a :: t).length := by simp
    rw [List.getElem?_eq_getElem hl, List.drop_eq_getElem_cons hl, List.drop_eq_nil_of_le (by simp)]
    rfl
/-- Whether the last one of the first j was k. -/
def mt (r : List Int) (j : Nat) (k : Int) : Bool := decide (0 < j ∧ r[j - 1]? = some k)
theorem mt_zero (r : List Int) (k : Int) : mt r 0 k = false := by simp [mt]
theorem mt_succ {r : List Int} {j : Nat} {k x : Int} (h : r[j]? = some x) : mt r (j + 1) k = (x == k) := by
  rw [mt, Nat.add_sub_cancel, h, Bool.eq_iff_iff]
  simp
theorem mt_on {r : List Int} {j : Nat} {k : Int} (h : ∀ i y, i + 1 < j → r[i]? = some y → y ≠ k) (hm : mt r j k = false) : ∀ i y, i + 1 < j + 1 → r[i]? = some y → y ≠ k := fun i y hi hy e => by
  rcases Nat.lt_or_ge (i + 1) j with h' | h'
  · exact h i y h' hy e
  · obtain rfl : j = i + 1 := by omega
    have := of_decide_eq_false hm
    rw [Nat.add_sub_cancel, hy, e] at this
    exact this ⟨by omega, rfl⟩

/-- Raised. -/
def rse (l : List Int) (k : Int) : List Int := dr k l ++ [k]
theorem rse_nodup {l : List Int} {k : Int} (h : l.Nodup) : (rse l k).Nodup := by
  rw [rse, List.nodup_append]
  refine ⟨h.filter _, by simp, fun a ha b hb => ?_⟩
  rw [List.mem_singleton] at hb
  rw [hb]
  exact (mem_dr.1 ha).2
theorem dr_nodup {l : List Int} {k : Int} (h : l.Nodup) : (dr k l).Nodup := h.filter _
theorem rse_length (l : List Int) (k : Int) : (rse l k).length ≤ l.length + 1 := by
  have := dr_length k l
  simp [rse]
  omega
theorem mem_rse {l : List Int} {k y : Int} (h : y ∈ rse l k) : y ∈ l ∨ y = k := by
  rw [rse, List.mem_append, List.mem_singleton] at h
  exact h.imp (fun h => (mem_dr.1 h).1) (fun h => h)
theorem topZ_last (l : List Int) : topZ l = (l[l.length - 1]?).getD 0 := by
  rw [topZ]
  cases l with
  | nil => rfl
  | cons x t => rw [List.getElem?_reverse (by simp)]; simp
theorem topZ_zero {l : List Int} (h : ∀ x ∈ l, x ≠ 0) : (topZ l = 0) ↔ l = [] := by
  constructor
  · intro e
    cases l with
    | nil => rfl
    | cons x t =>
      rw [topZ_last, List.getElem?_eq_getElem (by simp)] at e
      exact absurd e (h _ (List.getElem_mem _))
  · intro e
    rw [e]
    rfl
end Go.Proofs.YtfedcpnnmkkpaaaDoor
