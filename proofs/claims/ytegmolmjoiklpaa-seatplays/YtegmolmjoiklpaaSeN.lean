/- Enters and leaves by turns. No program. -/
import Derived.Test.YtegmolmjoiklpaaSeM
namespace Go.Proofs.Ytegmolmjoiklpaa
open Go Go.RowKit Go.Shelf

/-- Who has the pointer behind a note. -/
def ply1 (i : Int) (n : List Int) : Int := if knd n = 1 then sur n else if knd n = 2 then 0 else i
/-- A note that may be, where i has the pointer; mot: motions may be. -/
structure OkN (mot : Bool) (n : List Int) (i : Int) : Prop where
  e : knd n = 1 → i = 0 ∧ sur n ≠ 0
  l : knd n = 2 → i = sur n ∧ i ≠ 0
  m : knd n ≠ 1 → knd n ≠ 2 → knd n = 3 ∧ i = sur n ∧ mot = true
structure PlyOk (mot : Bool) (P s : Int) (l : List (List Int)) : Prop where
  each : ∀ (k : Nat) n, l[k]? = some n → OkN mot n ((l.take k).foldl ply1 P)
  last : l.foldl ply1 P = s
theorem ply_nil (mot : Bool) (P : Int) : PlyOk mot P P [] := ⟨fun k n h => by simp at h, rfl⟩
theorem ply_chg (mot : Bool) {P s : Int} (h : P ≠ s) (x y : Int) : PlyOk mot P s (chgN P s x y) := by
  by_cases h1 : P = 0
  · subst h1
    have h2 : s ≠ 0 := fun e => h e.symm
    have e : chgN 0 s x y = [[1, s, x, y]] := by simp [chgN, h2]
    rw [e]
    refine ⟨fun k n hk => ?_, rfl⟩
    match k, hk with
    | 0, hk =>
      cases hk
      exact ⟨fun _ => ⟨rfl, h2⟩, (fun q => by cases q), fun q => absurd rfl q⟩
  · by_cases h2 : s = 0
    · subst h2
      have e : chgN P 0 x y = [[2, P, 0, 0]] := by simp [chgN, h1]
      rw [e]
      refine ⟨fun k n hk => ?_, rfl⟩
      match k, hk with
      | 0, hk =>
        cases hk
        exact ⟨(fun q => by cases q), fun _ => ⟨rfl, h1⟩, fun _ q => absurd rfl q⟩
    · have e : chgN P s x y = [[2, P, 0, 0], [1, s, x, y]] := by simp [chgN, h1, h2]
      rw [e]
      refine ⟨fun k n hk => ?_, rfl⟩
      match k, hk with
      | 0, hk =>
        cases hk
        exact ⟨(fun q => by cases q), fun _ => ⟨rfl, h1⟩, fun _ q => absurd rfl q⟩
      | 1, hk =>
        cases hk
        exact ⟨fun _ => ⟨rfl, h2⟩, (fun q => by cases q), fun q => absurd rfl q⟩
theorem ply_mov (P s x y : Int) : PlyOk true P s (movN P s x y) := by
  by_cases h : P = s
  · subst h
    rw [movN_same]
    split
    · exact ply_nil _ _
    · refine ⟨fun k n hk => ?_, rfl⟩
      match k, hk with
      | 0, hk =>
        cases hk
        exact ⟨(fun q => by cases q), (fun q => by cases q), fun _ _ => ⟨rfl, rfl, rfl⟩⟩
  · rw [movN_other h]
    exact ply_chg true h x y
theorem ply_lok (mot : Bool) (P s x y : Int) : PlyOk mot P s (lokN P s x y) := by
  by_cases h : P = s
  · subst h
    rw [lokN_same]
    exact ply_nil _ _
  · rw [lokN_other h]
    exact ply_chg mot h x y
theorem mov_len (old s x y : Int) : (movN old s x y).length ≤ 2 := by
  by_cases h : old = s
  · subst h
    rw [movN_same]
    split <;> simp
  · rw [movN_other h, chgN]
    split <;> split <;> simp
theorem ply_step {P : Int} {l : List (List Int)} {k : Nat} {n : List Int} (h : l[k]? = some n) : (l.take (k + 1)).foldl ply1 P = ply1 ((l.take k).foldl ply1 P) n := by
  rw [List.take_add_one, h, Option.toList_some, List.foldl_append]
  rfl
end Go.Proofs.Ytegmolmjoiklpaa
