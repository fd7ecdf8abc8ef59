/- Orders as lists of numbers: where one stands first, without one, one put in. No program. -/
import Derived.Test.YtfedcpnnmkkpaaaDoorLibI
namespace Go.Proofs.YtfedcpnnmkkpaaaDoor
open Go Go.RowKit

/-- Where the first k stands. -/
def zx (k : Int) : List Int → Option Nat
  | [] => none
  | x :: l => if x = k then some 0 else (zx k l).map (· + 1)
/-- Without each k. -/
def dr (k : Int) (l : List Int) : List Int := l.filter fun z => z != k
/-- One put in at a place. -/
def ins (l : List Int) (i : Nat) (z : Int) : List Int := l.take i ++ z :: l.drop i

theorem zx_drop {k : Int} {l : List Int} : ∀ {j : Nat}, (∀ i y, i < j → l[i]? = some y → y ≠ k) → zx k l = (zx k (l.drop j)).map (· + j)
  | 0, _ => by simp
  | j + 1, h => by
    rw [zx_drop (j := j) fun i y hi hy => h i y (by omega) hy]
    cases hd' : l[j]? with
    | none =>
      have : l.length ≤ j := List.getElem?_eq_none_iff.1 hd'
      rw [List.drop_eq_nil_of_le this, List.drop_eq_nil_of_le (by omega)]
      rfl
    | some y =>
      rw [drop_atZ hd', zx, if_neg (h j y (by omega) hd')]
      cases zx k (l.drop (j + 1)) with
      | none => rfl
      | some i => simp; omega
theorem dr_cons (k x : Int) (l : List Int) : dr k (x :: l) = if x = k then dr k l else x :: dr k l := by
  unfold dr
  rw [List.filter_cons]
  by_cases h : x = k <;> simp [h]
theorem dr_append (k : Int) (l m : List Int) : dr k (l ++ m) = dr k l ++ dr k m := List.filter_append ..
theorem dr_length (k : Int) (l : List Int) : (dr k l).length ≤ l.length := List.length_filter_le ..
theorem mem_dr {k y : Int} {l : List Int} : y ∈ dr k l ↔ y ∈ l ∧ y ≠ k := by simp [dr, List.mem_filter]
theorem dr_not {k : Int} {l : List Int} (h : k ∉ l) : dr k l = l := by
  unfold dr
  rw [List.filter_eq_self]
  intro z hz
  simp only [bne_iff_ne, ne_eq]
  intro e
  exact h (e ▸ hz)
theorem zx_none {k : Int} : ∀ {l : List Int}, zx k l = none ↔ k ∉ l
  | [] => by simp [zx]
  | x :: l => by
    rw [zx]
    by_cases hx : x = k
    · simp [hx]
    · rw [if_neg hx, Option.map_eq_none_iff, zx_none (l := l), List.mem_cons, not_or]
      exact ⟨fun h => ⟨fun e => hx e.symm, h⟩, fun h => h.2⟩
theorem zx_some {k : Int} : ∀ {l : List Int} {i : Nat}, zx k l = some i → i < l.length ∧ l[i]? = some k ∧ dr k l = l.take i ++ dr k (l.drop (i + 1)) ∧ k ∉ l.take i
  | [], _, h => by cases h
  | x :: l, i, h => by
    rw [zx] at h
    split at h
    · rename_i hx
      cases h
      refine ⟨by simp, by simp [hx], ?_, by simp⟩
      rw [dr_cons, if_pos hx]
      rfl
    · rename_i hx
      obtain ⟨m, hm, rfl⟩ := Option.map_eq_some_iff.1 h
      obtain ⟨h1, h2, h3, h4⟩ := zx_some hm
      refine ⟨by simpa using h1, by simpa using h2, ?_, ?_⟩
      · rw [dr_cons, if_neg hx, h3]
        rfl
      · rw [List.take_succ_cons, List.mem_cons, not_or]
        exact ⟨fun e => hx e.symm, h4⟩
/-- Put beside another one: nothing where that may not be. -/
def bes (l : List Int) (id by_ : Int) (b : Nat) : Option (List Int) :=
  match zx id l with
  | none => none
  | some _ => (zx by_ (dr id l)).map fun i => ins (dr id l) (i + b) id
theorem ins_length (l : List Int) (i : Nat) (z : Int) : (ins l i z).length = l.length + 1 := by
  have e : l.length = (l.take i).length + (l.drop i).length := by rw [← List.length_append, List.take_append_drop]
  unfold ins
  rw [List.length_append, List.length_cons]
  omega
theorem ins_end (l : List Int) (z : Int) : ins l l.length z = l ++ [z] := by simp [ins]

/-- The document's: none if they are one, or one of them is not there. -/
theorem bes_doc (l : List Int) (id by_ : Int) (b : Nat) : bes l id by_ b = if id = by_ ∨ zx id l = none ∨ zx by_ l = none then none else (zx by_ (dr id l)).map fun i => ins (dr id l) (i + b) id := by
  unfold bes
  cases h1 : zx id l with
  | none => rw [if_pos (.inr (.inl rfl))]
  | some k =>
    by_cases h2 : id = by_
    · rw [if_pos (.inl h2)]
      have : zx by_ (dr id l) = none := zx_none.2 (fun h => (mem_dr.1 h).2 h2.symm)
      show Option.map _ (zx by_ (dr id l)) = none
      rw [this]
      rfl
    · by_cases h3 : zx by_ l = none
      · rw [if_pos (.inr (.inr h3))]
        have : zx by_ (dr id l) = none := zx_none.2 (fun h => zx_none.1 h3 (mem_dr.1 h).1)
        show Option.map _ (zx by_ (dr id l)) = none
        rw [this]
        rfl
      · rw [if_neg (by
          rintro (h | h | h)
          · exact h2 h
          · cases h
          · exact h3 h)]

/-- Where one is, the cell says that it is the one, or not. -/
theorem zx_at {k y : Int} {l : List Int} {j : Nat} (h : l[j]? = some y) : zx k (l.drop j) = if y = k then some 0 else (zx k (l.drop (j + 1))).map (· + 1) := by
  rw [drop_atZ h, zx]
end Go.Proofs.YtfedcpnnmkkpaaaDoor
