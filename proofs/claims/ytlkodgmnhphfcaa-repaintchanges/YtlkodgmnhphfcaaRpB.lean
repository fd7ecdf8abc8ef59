/- Repaint: what the program puts together is, added, what the document adds; a damage cut ahead of being moved. Nothing of the program. -/
import Derived.Test.YtlkodgmnhphfcaaRpA
namespace Go.Proofs.Ytlkodgmnhphfcaa
open Go Go.RowKit

/-- What the program has at one place. -/
def qhp (o v : Option (List Int)) (D : List (Int × List Rc)) : List Rc := match o, v with
  | some a, some b => if a = b then (if dck (vrc b) = true then D.flatMap fun d => if d.1 = nm5 0 b then d.2.map (spt b) else [] else []) else [vrc a, vrc b]
  | some a, none => [vrc a]
  | none, some b => [vrc b]
  | none, none => []
def qhN (o v : List (List Int)) (D : List (Int × List Rc)) (k : Nat) : List Rc := (List.range k).flatMap fun i => qhp o[i]? v[i]? D
theorem qhN_zero (o v : List (List Int)) (D : List (Int × List Rc)) : qhN o v D 0 = [] := rfl
theorem qhN_succ (o v : List (List Int)) (D : List (Int × List Rc)) (k : Nat) : qhN o v D (k + 1) = qhN o v D k ++ qhp o[k]? v[k]? D := by
  rw [qhN, List.range_succ, List.flatMap_append, List.flatMap_singleton]
  rfl
theorem dfl_app (l m : List Rc) : dfl (l ++ m) = m.foldl dput (dfl l) := by rw [dfl, List.foldl_append]; rfl
theorem qhp_chp (o v : Option (List Int)) (D : List (Int × List Rc)) : qhp o v D = chp o v D ∨ (qhp o v D = [] ∧ ∀ r ∈ chp o v D, r = rz) := by
  cases o with
  | none => cases v <;> exact .inl rfl
  | some a =>
    cases v with
    | none => exact .inl rfl
    | some b =>
      rw [qhp, chp]
      by_cases e : a = b
      · rw [if_pos e, if_pos e]
        cases h : dck (vrc b) with
        | true => exact .inl rfl
        | false =>
          refine .inr ⟨rfl, fun r hr => ?_⟩
          obtain ⟨d, _, hr⟩ := List.mem_flatMap.1 hr
          split at hr
          · obtain ⟨x, _, rfl⟩ := List.mem_map.1 hr
            exact spt_no (.inl h)
          · cases hr
      · rw [if_neg e, if_neg e]
        exact .inl rfl
theorem qhN_dfl (o v : List (List Int)) (D : List (Int × List Rc)) (k : Nat) : dfl (qhN o v D k) = dfl (chN o v D k) := by
  induction k with
  | zero => rfl
  | succ k ih =>
    rw [qhN_succ, chN_succ, dfl_app, ih, ← dfl_app]
    rcases qhp_chp o[k]? v[k]? D with h | ⟨h, h'⟩
    · rw [h]
    · rw [h, List.append_nil, dfl_app_rz _ _ h']

/-- Cut ahead of being moved, it is the same. -/
theorem sh_spt {y : List Int} (k : Ck (vrc y)) (r : Rc) : sh (cut (bnd r) (bnd ⟨0, 0, nm5 4 y, nm5 5 y⟩)) (nm5 2 y) (nm5 3 y) = spt y r := by
  cases hb : emp (bnd r) with
  | true => rw [cut_emp1 hb, sh_emp rfl, spt_no (.inr hb)]
  | false =>
    have kb : Ck (bnd r) := by
      rcases bnd_cases r with h | h
      · rw [hb] at h; cases h
      · exact h
    rw [spt_cut k hb]
    obtain ⟨k1, k2, k3, k4, k5, k6⟩ := k
    simp only [vrc] at k1 k2 k3 k4 k5 k6
    have hw : emp ⟨0, 0, nm5 4 y, nm5 5 y⟩ = false := by
      simp only [emp, Bool.or_eq_false_iff, decide_eq_false_iff_not]
      omega
    have e : bnd ⟨0, 0, nm5 4 y, nm5 5 y⟩ = ⟨0, 0, min (nm5 4 y) 16777216, min (nm5 5 y) 16777216⟩ := by
      rw [bnd_full hw]
      dsimp only
      rw [oft_full (by rw [ed]; split <;> omega) (by rw [ed]; split <;> omega)]
      congr 1
      · rw [ed]; split <;> omega
      · rw [ed]; split <;> omega
    rw [e]
    generalize bnd r = q at *
    obtain ⟨l1, l2, l3, l4, l5, l6⟩ := kb
    have he : emp ⟨0, 0, min (nm5 4 y) 16777216, min (nm5 5 y) 16777216⟩ = false := by
      simp only [emp, Bool.or_eq_false_iff, decide_eq_false_iff_not]
      omega
    rw [cut_full hb he]
    dsimp only
    rw [en, if_pos (by omega), en, if_pos (by omega), en, if_pos (by omega), en, if_pos (by omega)]
    unfold oft
    split
    · rw [sh_emp rfl, if_pos (by omega)]
    · rw [sh_full (by simp only [emp, Bool.or_eq_false_iff, decide_eq_false_iff_not]; omega), if_neg (by omega)]
      dsimp only
      congr 1 <;> omega
end Go.Proofs.Ytlkodgmnhphfcaa
