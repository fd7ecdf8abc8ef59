/- Repaint: what has changed between two lists of views, and why its part, painted anew, is the whole. Nothing of the program. -/
import Derived.Test.YtlkodgmnhphfcaaDmgA
import Derived.Test.YtlkodgmnhphfcaaLibJ
namespace Go.Proofs.Ytlkodgmnhphfcaa
open Go Go.RowKit

/-- A view's rectangle. -/
def vrc (y : List Int) : Rc := ⟨nm5 2 y, nm5 3 y, nm5 4 y, nm5 5 y⟩
/-- A damage of a view. -/
def spt (y : List Int) (r : Rc) : Rc := if dck (vrc y) = false ∨ emp (bnd r) = true then rz else cut (sh (bnd r) (nm5 2 y) (nm5 3 y)) (vrc y)
/-- What has changed at one place. -/
def chp (o v : Option (List Int)) (D : List (Int × List Rc)) : List Rc := match o, v with
  | some a, some b => if a = b then D.flatMap fun d => if d.1 = nm5 0 b then d.2.map (spt b) else [] else [vrc a, vrc b]
  | some a, none => [vrc a]
  | none, some b => [vrc b]
  | none, none => []
/-- What has changed at the first k places. -/
def chN (o v : List (List Int)) (D : List (Int × List Rc)) (k : Nat) : List Rc := (List.range k).flatMap fun i => chp o[i]? v[i]? D
def chl (o v : List (List Int)) (D : List (Int × List Rc)) : List Rc := chN o v D (max o.length v.length)
theorem chN_zero (o v : List (List Int)) (D : List (Int × List Rc)) : chN o v D 0 = [] := rfl
theorem chN_succ (o v : List (List Int)) (D : List (Int × List Rc)) (k : Nat) : chN o v D (k + 1) = chN o v D k ++ chp o[k]? v[k]? D := by
  rw [chN, List.range_succ, List.flatMap_append, List.flatMap_singleton]
  rfl
/-- A rectangle added to what is held to few is added to all. -/
theorem dput_dfl (l : List Rc) (r : Rc) : dput (dfl (dfl l)) r = dfl (l ++ [r]) := by
  rw [dfl_again (dfl_reg l) (dfl_len l), dfl_push]
theorem dput_rz {m : List Rc} (h : Reg m) (hl : m.length ≤ 40) : dput m rz = m := dput_there h hl fun x y hp => by
  rw [show ofl rz = [] by decide] at hp
  cases hp
theorem dfl_rz (l : List Rc) : dfl (l ++ [rz]) = dfl l := by rw [dfl_push, dput_rz (dfl_reg l) (dfl_len l)]
theorem dfl_app_rz (l m : List Rc) (h : ∀ r ∈ m, r = rz) : dfl (l ++ m) = dfl l := by
  induction m generalizing l with
  | nil => rw [List.append_nil]
  | cons r m ih =>
    rw [show l ++ r :: m = (l ++ [r]) ++ m by simp, ih _ fun a ha => h a (by simp [ha]), h r (by simp), dfl_rz]

/-! Either way round, the same. -/
theorem chp_mem {o v : Option (List Int)} {r : Rc} : r ∈ chp o v [] ↔ o ≠ v ∧ ((∃ a, o = some a ∧ r = vrc a) ∨ ∃ b, v = some b ∧ r = vrc b) := by
  cases o with
  | none => cases v <;> simp [chp]
  | some a =>
    cases v with
    | none => simp [chp]
    | some b =>
      by_cases e : a = b
      · simp [chp, e]
      · simp [chp, e]
theorem chp_turn (o v : Option (List Int)) (r : Rc) : r ∈ chp o v [] ↔ r ∈ chp v o [] := by
  rw [chp_mem, chp_mem]
  constructor
  · rintro ⟨h, h' | h'⟩
    · exact ⟨h.symm, .inr h'⟩
    · exact ⟨h.symm, .inl h'⟩
  · rintro ⟨h, h' | h'⟩
    · exact ⟨h.symm, .inr h'⟩
    · exact ⟨h.symm, .inl h'⟩
theorem chl_mem {o v : List (List Int)} {D : List (Int × List Rc)} {r : Rc} : r ∈ chl o v D ↔ ∃ i : Nat, r ∈ chp o[i]? v[i]? D := by
  rw [chl, chN, List.mem_flatMap]
  constructor
  · rintro ⟨i, _, h⟩
    exact ⟨i, h⟩
  · rintro ⟨i, h⟩
    refine ⟨i, List.mem_range.2 ?_, h⟩
    apply Decidable.byContradiction
    intro hi
    rw [List.getElem?_eq_none (by omega), List.getElem?_eq_none (by omega)] at h
    cases h
theorem chl_turn (o v : List (List Int)) (r : Rc) : r ∈ chl o v [] ↔ r ∈ chl v o [] := by
  rw [chl_mem, chl_mem]
  exact ⟨fun ⟨i, h⟩ => ⟨i, (chp_turn _ _ r).1 h⟩, fun ⟨i, h⟩ => ⟨i, (chp_turn _ _ r).1 h⟩⟩
theorem chp_len (o v : Option (List Int)) : (chp o v []).length ≤ o.toList.length + v.toList.length := by
  cases o with
  | none => cases v <;> simp [chp]
  | some a =>
    cases v with
    | none => simp [chp]
    | some b =>
      by_cases e : a = b
      · simp [chp, e]
      · simp [chp, e]
theorem chN_len (o v : List (List Int)) (k : Nat) : (chN o v [] k).length ≤ (o.take k).length + (v.take k).length := by
  induction k with
  | zero => simp [chN]
  | succ k ih =>
    have h := chp_len o[k]? v[k]?
    rw [chN_succ, List.length_append, List.take_add_one, List.take_add_one, List.length_append, List.length_append]
    omega
theorem chl_len (o v : List (List Int)) : (chl o v []).length ≤ o.length + v.length := by
  have h := chN_len o v (max o.length v.length)
  rw [List.take_of_length_le (by omega), List.take_of_length_le (by omega)] at h
  exact h
theorem dfl_mem {l m : List Rc} (hl : l.length ≤ 6) (hm : m.length ≤ 6) (h : ∀ r, r ∈ l ↔ r ∈ m) : dfl l = dfl m := by
  refine reg_eq (dfl_reg _) (dfl_reg _) fun x y => ?_
  rw [dfl_few hl, dfl_few hm, Bool.eq_iff_iff, pt_iff, pt_iff]
  constructor
  · rintro ⟨a, ha, h'⟩
    obtain ⟨r, hr, ha⟩ := List.mem_flatMap.1 ha
    exact ⟨a, List.mem_flatMap.2 ⟨r, (h r).1 hr, ha⟩, h'⟩
  · rintro ⟨a, ha, h'⟩
    obtain ⟨r, hr, ha⟩ := List.mem_flatMap.1 ha
    exact ⟨a, List.mem_flatMap.2 ⟨r, (h r).2 hr, ha⟩, h'⟩
/-- Few views: either way round the same has changed. -/
theorem ch_turn {o v : List (List Int)} (h : o.length + v.length ≤ 6) : dfl (chl o v []) = dfl (chl v o []) := by
  have h1 := chl_len o v
  have h2 := chl_len v o
  exact dfl_mem (by omega) (by omega) (chl_turn o v)
/-- Of lists that are the same nothing but what is dirty. -/
theorem ch_same {o : List (List Int)} {D : List (Int × List Rc)} (h : ∀ a ∈ o, ∀ d ∈ D, d.1 ≠ nm5 0 a) : chl o o D = [] := by
  apply List.eq_nil_iff_forall_not_mem.2
  intro r hr
  obtain ⟨i, hi⟩ := chl_mem.1 hr
  cases e : o[i]? with
  | none => rw [e] at hi; cases hi
  | some a =>
    rw [e, chp, if_pos rfl] at hi
    obtain ⟨d, hd, hr⟩ := List.mem_flatMap.1 hi
    rw [if_neg (h a (List.mem_of_getElem? e) d hd)] at hr
    cases hr

/-! Damage. -/
theorem spt_full {y : List Int} {r : Rc} (k : Ck (vrc y)) (hb : emp (bnd r) = false) : spt y r = cut (sh (bnd r) (nm5 2 y) (nm5 3 y)) (vrc y) := by
  rw [spt, if_neg]
  rw [dck_iff.2 k, hb]
  decide
theorem spt_no {y : List Int} {r : Rc} (h : dck (vrc y) = false ∨ emp (bnd r) = true) : spt y r = rz := by rw [spt, if_pos h]
theorem spt_cut {y : List Int} {r : Rc} (k : Ck (vrc y)) (hb : emp (bnd r) = false) : spt y r = oft (max ((bnd r).x + nm5 2 y) (nm5 2 y)) (max ((bnd r).y + nm5 3 y) (nm5 3 y)) (min ((bnd r).x + nm5 2 y + (bnd r).w) (nm5 2 y + nm5 4 y)) (min ((bnd r).y + nm5 3 y + (bnd r).h) (nm5 3 y + nm5 5 y)) := by
  have kb : Ck (bnd r) := by
    rcases bnd_cases r with h | h
    · rw [hb] at h; cases h
    · exact h
  rw [spt_full k hb, sh_full hb, cut_full (by simp only [emp] at hb ⊢; exact hb) k.emp]
  obtain ⟨k1, k2, k3, k4, k5, k6⟩ := k
  obtain ⟨l1, l2, l3, l4, l5, l6⟩ := kb
  simp only [vrc] at k1 k2 k3 k4 k5 k6
  simp only [vrc]
  rw [en, if_pos (by omega), en, if_pos (by omega), en, if_pos (by omega), en, if_pos (by omega)]
theorem spt_has {y : List Int} {r : Rc} (k : Ck (vrc y)) (u v : Int) : has (spt y r) u v = (has (bnd r) (u - nm5 2 y) (v - nm5 3 y) && has (vrc y) u v) := by
  cases hb : emp (bnd r) with
  | true => rw [spt_no (.inr hb), has_rz, has_emp hb, Bool.false_and]
  | false =>
    rw [spt_cut k hb, Bool.eq_iff_iff, Bool.and_eq_true, has_iff, has_iff, has_iff, oft]
    simp only [emp, Bool.or_eq_false_iff, decide_eq_false_iff_not] at hb
    obtain ⟨k1, k2, k3, k4, k5, k6⟩ := k
    simp only [vrc] at k1 k2 k3 k4 k5 k6 ⊢
    split
    · simp only [rz]; omega
    · dsimp only; omega
theorem spt_ok (y : List Int) (r : Rc) : (spt y r).Ok := by
  by_cases h : dck (vrc y) = false ∨ emp (bnd r) = true
  · rw [spt_no h]; exact rz_ok
  · have h1 : dck (vrc y) = true := by cases e : dck (vrc y) with
      | true => rfl
      | false => exact absurd (.inl e) h
    have h2 : emp (bnd r) = false := by cases e : emp (bnd r) with
      | false => rfl
      | true => exact absurd (.inr e) h
    have k := dck_iff.1 h1
    have kb : Ck (bnd r) := by
      rcases bnd_cases r with h | h
      · rw [h2] at h; cases h
      · exact h
    rw [spt_cut k h2, oft]
    obtain ⟨k1, k2, k3, k4, k5, k6⟩ := k
    obtain ⟨l1, l2, l3, l4, l5, l6⟩ := kb
    simp only [vrc] at k1 k2 k3 k4 k5 k6
    split
    · exact rz_ok
    · exact ⟨by dsimp only; omega, by dsimp only; omega, by dsimp only; omega, by dsimp only; omega⟩
theorem chl_one (y : List Int) (r : Rc) : chl [y] [y] [(nm5 0 y, [r])] = [spt y r] := by
  simp [chl, chN, chp]
end Go.Proofs.Ytlkodgmnhphfcaa
