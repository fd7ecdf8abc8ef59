/- Numbers with what they have, in the order in which they came, and the maps that hold them; no walk (stage 11's, without the pools). -/
import Derived.Test.YtnlaegleekghmaaDoorLibK
import Derived.Maps.OwnSet
import Derived.Maps.OwnOps
import Derived.Maps.Range
import Derived.Lib.SlKeysI
import Derived.Lib.Builder
namespace Go.Proofs.YtnlaegleekghmaaDoor
open Go Go.RowKit

section
variable {α : Type}
/-- What a number has. -/
def gt : List (Int × α) → Int → Option α
  | [], _ => none
  | e :: l, k => if e.1 = k then some e.2 else gt l k
/-- Another value in its place. -/
def st (l : List (Int × α)) (k : Int) (q : α) : List (Int × α) := l.map fun e => if e.1 = k then (k, q) else e
def rm (l : List (Int × α)) (k : Int) : List (Int × α) := l.filter fun e => decide (e.1 ≠ k)
def keys (l : List (Int × α)) : List Int := l.map (·.1)
/-- In its place, or behind the others. -/
def wr (l : List (Int × α)) (k : Int) (q : α) : List (Int × α) := if (gt l k).isSome then st l k q else l ++ [(k, q)]
/-- Where it stands. -/
def ix : List (Int × α) → Int → Nat
  | [], _ => 0
  | e :: l, k => if e.1 = k then 0 else ix l k + 1

theorem gt_none {l : List (Int × α)} {k : Int} : gt l k = none ↔ k ∉ keys l := by
  induction l with
  | nil => simp [gt, keys]
  | cons e l ih =>
    simp only [gt, keys, List.map_cons, List.mem_cons, not_or]
    split
    · rename_i h
      simp [h]
    · rename_i h
      rw [ih, keys]
      exact ⟨fun q => ⟨fun x => h x.symm, q⟩, fun q => q.2⟩
theorem gt_some {l : List (Int × α)} {k : Int} : (gt l k).isSome = true ↔ k ∈ keys l := by
  cases h : gt l k with
  | none => simp [gt_none.1 h]
  | some q =>
    have : ¬ k ∉ keys l := fun h' => by rw [gt_none.2 h'] at h; cases h
    simpa using this
theorem gt_app (l : List (Int × α)) (k x : Int) (q : α) : gt (l ++ [(k, q)]) x = if (gt l x).isSome then gt l x else if k = x then some q else none := by
  induction l with
  | nil => simp [gt]
  | cons e l ih =>
    simp only [List.cons_append, gt]
    split
    · simp
    · exact ih
theorem gt_st (l : List (Int × α)) (k x : Int) (q : α) : gt (st l k q) x = if x = k then (gt l k).map (fun _ => q) else gt l x := by
  induction l with
  | nil => simp [gt, st]
  | cons e l ih =>
    simp only [st, List.map_cons, gt] at ih ⊢
    by_cases he : e.1 = k
    · rw [if_pos he, if_pos he]
      by_cases hx : x = k
      · rw [if_pos hx.symm, if_pos hx]
        simp
      · rw [if_neg (fun h => hx h.symm), if_neg hx, ih, if_neg hx, if_neg (fun h => hx (h.symm.trans he))]
    · rw [if_neg he, if_neg he]
      by_cases hx : x = k
      · subst hx
        rw [if_neg he, ih, if_pos rfl, if_pos rfl]
      · rw [if_neg hx, ih, if_neg hx]
theorem gt_wr (l : List (Int × α)) (k x : Int) (q : α) : gt (wr l k q) x = if x = k then some q else gt l x := by
  unfold wr
  split
  · rename_i h
    rw [gt_st]
    by_cases hx : x = k
    · rw [if_pos hx, if_pos hx]
      obtain ⟨q', hq'⟩ := Option.isSome_iff_exists.1 h
      rw [hq']
      rfl
    · rw [if_neg hx, if_neg hx]
  · rename_i h
    rw [gt_app]
    by_cases hx : x = k
    · subst hx
      rw [if_neg h, if_pos rfl, if_pos rfl]
    · rw [if_neg hx]
      cases hg : gt l x with
      | none => simp [show k ≠ x from fun h => hx h.symm]
      | some q => simp
theorem gt_rm (l : List (Int × α)) (k x : Int) : gt (rm l k) x = if x = k then none else gt l x := by
  induction l with
  | nil => simp [gt, rm]
  | cons e l ih =>
    simp only [rm, List.filter_cons, gt] at ih ⊢
    by_cases he : e.1 = k
    · rw [if_neg (by simpa using he), ih]
      by_cases hx : x = k
      · rw [if_pos hx, if_pos hx]
      · rw [if_neg hx, if_neg hx, if_neg (fun h => hx (h.symm.trans he))]
    · rw [if_pos (by simpa using he)]
      simp only [gt]
      by_cases hx : x = k
      · rw [if_pos hx, if_neg (fun h => he (h.trans hx)), ih, if_pos hx]
      · rw [if_neg hx, ih, if_neg hx]
theorem keys_st (l : List (Int × α)) (k : Int) (q : α) : keys (st l k q) = keys l := by
  simp only [keys, st, List.map_map]
  refine List.map_congr_left fun e _ => ?_
  simp only [Function.comp]
  split
  · rename_i h
    exact h.symm
  · rfl
theorem keys_wr {l : List (Int × α)} (h : (keys l).Nodup) (k : Int) (q : α) : (keys (wr l k q)).Nodup := by
  unfold wr
  split
  · rw [keys_st]
    exact h
  · rename_i hn
    have hn' : k ∉ keys l := fun hm => hn (gt_some.2 hm)
    rw [keys, List.map_append]
    refine List.nodup_append.2 ⟨h, by simp, fun a ha b hb e => hn' ?_⟩
    simp only [List.map_cons, List.map_nil, List.mem_cons, List.not_mem_nil, or_false] at hb
    rw [← hb, ← e]
    exact ha
theorem keys_rm {l : List (Int × α)} (h : (keys l).Nodup) (k : Int) : (keys (rm l k)).Nodup :=
  List.Nodup.sublist (List.Sublist.map _ List.filter_sublist) h
theorem wr_length (l : List (Int × α)) (k : Int) (q : α) : (wr l k q).length ≤ l.length + 1 := by
  unfold wr
  split
  · simp [st]
  · simp
theorem rm_length (l : List (Int × α)) (k : Int) : (rm l k).length ≤ l.length := List.length_filter_le _ _
theorem mem_wr {l : List (Int × α)} {k : Int} {q : α} {e : Int × α} (h : e ∈ wr l k q) : e ∈ l ∨ e = (k, q) := by
  unfold wr at h
  split at h
  · obtain ⟨x, hx, rfl⟩ := List.mem_map.1 h
    split
    · exact .inr rfl
    · exact .inl hx
  · simpa using h
theorem mem_rm {l : List (Int × α)} {k : Int} {e : Int × α} (h : e ∈ rm l k) : e ∈ l := (List.mem_filter.1 h).1
theorem gt_mem {l : List (Int × α)} {k : Int} {q : α} (h : gt l k = some q) : (k, q) ∈ l := by
  induction l with
  | nil => cases h
  | cons e l ih =>
    rw [gt] at h
    split at h
    · rename_i he
      cases h
      rw [← he]
      exact List.mem_cons_self
    · exact List.mem_cons_of_mem _ (ih h)

theorem ix_le (l : List (Int × α)) (k : Int) : ix l k ≤ l.length := by
  induction l with
  | nil => exact Nat.zero_le _
  | cons e l ih =>
    simp only [ix, List.length_cons]
    split <;> omega
theorem ix_none {l : List (Int × α)} {k : Int} (h : gt l k = none) : ix l k = l.length := by
  induction l with
  | nil => rfl
  | cons e l ih =>
    rw [gt] at h
    rw [ix]
    split at h
    · cases h
    · rename_i he
      rw [if_neg he, ih h]
      rfl
theorem ix_some {l : List (Int × α)} {k : Int} {q : α} (h : gt l k = some q) : l[ix l k]? = some (k, q) := by
  induction l with
  | nil => cases h
  | cons e l ih =>
    rw [gt] at h
    rw [ix]
    split at h
    · rename_i he
      rw [if_pos he]
      cases h
      simp [← he]
    · rename_i he
      rw [if_neg he]
      simpa using ih h
theorem ix_lt {l : List (Int × α)} {k : Int} {q : α} (h : gt l k = some q) : ix l k < l.length := (List.getElem?_eq_some_iff.1 (ix_some h)).1
/-- Ahead of it there is none. -/
theorem ix_ahead (l : List (Int × α)) (k : Int) (j : Nat) (hj : j < ix l k) (e : Int × α) (he : l[j]? = some e) : e.1 ≠ k := by
  induction l generalizing j with
  | nil => simp at he
  | cons x l ih =>
    rw [ix] at hj
    split at hj
    · omega
    · rename_i hx
      cases j with
      | zero =>
        simp only [List.getElem?_cons_zero, Option.some.injEq] at he
        rw [← he]
        exact hx
      | succ j =>
        simp only [List.getElem?_cons_succ] at he
        exact ih j (by omega) he
theorem rm_none {l : List (Int × α)} {k : Int} (h : gt l k = none) : rm l k = l := by
  rw [rm, List.filter_eq_self]
  intro e he
  simp only [ne_eq, decide_not, Bool.not_eq_eq_eq_not, Bool.not_true, decide_eq_false_iff_not]
  intro h1
  exact gt_none.1 h (h1 ▸ List.mem_map_of_mem he)
theorem st_none {l : List (Int × α)} {k : Int} (h : k ∉ keys l) (q : α) : st l k q = l := by
  rw [st]
  conv => rhs; rw [← List.map_id l]
  refine List.map_congr_left fun e he => ?_
  have hne : ¬ e.1 = k := fun h1 => h (by rw [← h1]; exact List.mem_map_of_mem he)
  rw [if_neg hne]
  rfl
theorem st_ix {l : List (Int × α)} (hn : (keys l).Nodup) {k : Int} {q0 : α} (h : gt l k = some q0) (q : α) : st l k q = l.set (ix l k) (k, q) := by
  induction l with
  | nil => cases h
  | cons e l ih =>
    rw [keys, List.map_cons, List.nodup_cons] at hn
    rw [gt] at h
    rw [ix, st, List.map_cons]
    split at h
    · rename_i he
      rw [if_pos he, if_pos he, List.set_cons_zero]
      have := st_none (l := l) (k := k) (by rw [← he]; exact hn.1) q
      rw [st] at this
      rw [this]
    · rename_i he
      rw [if_neg he, if_neg he, List.set_cons_succ]
      have := ih hn.2 h
      rw [st] at this
      rw [this]
theorem rm_ix {l : List (Int × α)} (hn : (keys l).Nodup) {k : Int} {q0 : α} (h : gt l k = some q0) : rm l k = l.take (ix l k) ++ l.drop (ix l k + 1) := by
  induction l with
  | nil => cases h
  | cons e l ih =>
    rw [keys, List.map_cons, List.nodup_cons] at hn
    rw [gt] at h
    rw [ix, rm, List.filter_cons]
    split at h
    · rename_i he
      rw [if_pos he, if_neg (by simpa using he)]
      have := rm_none (l := l) (k := k) (gt_none.2 (by rw [← he]; exact hn.1))
      rw [rm] at this
      rw [this]
      rfl
    · rename_i he
      rw [if_neg he, if_pos (by simpa using he)]
      have := ih hn.2 h
      rw [rm] at this
      rw [this]
      rfl

/-! The map that holds them. -/
theorem key_ne {x k : Int} (h : x ≠ k) : Lit.int .i64 x ≠ Lit.int .i64 k := by simpa using h
theorem isKey (k : Int) : WideAt.IsKeyLit (.int .i64 k) := trivial

def Rp (dat : α → DataW Unit) (z : α) (D : DataW Unit) (l : List (Int × α)) : Prop := ∀ k : Int, Maps.has D (.int .i64 k) = (gt l k).isSome ∧ D.atKey (.int .i64 k) (dat z) = dat ((gt l k).getD z)

variable {dat : α → DataW Unit} {z : α} {D : DataW Unit} {l : List (Int × α)}
theorem Rp.put (h : Rp dat z D l) (hm : Maps.IsMap D) (k : Int) (q : α) : Rp dat z (D.put (.int .i64 k) (dat q)) (wr l k q) := fun x => by
  rw [gt_wr]
  by_cases hx : x = k
  · subst hx
    rw [if_pos rfl, Maps.has_put_same hm (isKey _), Maps.atKey_put_same hm (isKey _)]
    exact ⟨rfl, rfl⟩
  · rw [if_neg hx, Maps.has_put_other (key_ne hx), Maps.atKey_put_other (key_ne hx)]
    exact h x
theorem Rp.del (h : Rp dat z D l) (k : Int) : Rp dat z (D.del (.int .i64 k)) (rm l k) := fun x => by
  rw [gt_rm]
  by_cases hx : x = k
  · subst hx
    rw [if_pos rfl, Maps.has_del_same, Maps.atKey_del_same]
    exact ⟨rfl, rfl⟩
  · rw [if_neg hx, Maps.has_del_other (key_ne hx), Maps.atKey_del_other (key_ne hx)]
    exact h x
theorem rp_empty (dat : α → DataW Unit) (z : α) : Rp dat z (.map []) [] := fun _ => ⟨rfl, rfl⟩

variable {P : Program} {kt : TypeId} {w : World} {b n : Nat} {R : Value → Option (DataW Unit × List MemPlace)}
theorem pkeys_perm (h : w.ownsMap P kt R b n D) (hk : P.underlying kt = some (.int .i64)) (hR : Rp dat z D l) (hn : (keys l).Nodup) : (keys l).Perm (intKeys D) := by
  have hC : CollectedI D (fun _ => false) (keys l) := ⟨hn, fun x => by rw [← gt_some, (hR x).1]; simp⟩
  exact hC.perm h (Maps.int_keyed hk) hk (fun _ => rfl)
theorem psize (h : w.ownsMap P kt R b n D) (hk : P.underlying kt = some (.int .i64)) (hR : Rp dat z D l) (hn : (keys l).Nodup) : Maps.size D = l.length := by
  have := (pkeys_perm h hk hR hn).length_eq
  rw [keys, List.length_map] at this
  rw [this]
  obtain ⟨es, rfl, _⟩ := h.entries (Maps.int_keyed hk)
  simp [intKeys, Maps.size]
theorem ptight (h : w.ownsMap P kt R b n D) (hk : P.underlying kt = some (.int .i64)) (hR : Rp dat z D l) (hn : (keys l).Nodup) : w.ownsMap P kt R b l.length D := by
  have e1 := psize h hk hR hn
  obtain ⟨es, clock, hb, F, hs, rfl⟩ := h
  refine ⟨es, clock, hb, F, ?_, rfl⟩
  have e2 : Maps.size _ ≤ l.length := Nat.le_of_eq e1
  simpa [Maps.size, length_sorted] using e2
theorem psorted (h : w.ownsMap P kt R b n D) (hk : P.underlying kt = some (.int .i64)) (hR : Rp dat z D l) (hn : (keys l).Nodup) {ss : List Int} (hp : ss.Perm (intKeys D)) : ss.mergeSort leI = (keys l).mergeSort leI :=
  mergeSort_of_perm_i (hp.trans (pkeys_perm h hk hR hn).symm)
end
end Go.Proofs.YtnlaegleekghmaaDoor
