/- Numbers in rising order, each once; what is held, and what was told; no walk. -/
import Derived.Test.YtmihmajhfoghpaaLibM
namespace Go.Proofs.Ytmihmajhfoghpaa
open Go Go.RowKit

/-- Rising, each once. -/
abbrev Ris (l : List Int) : Prop := l.Pairwise (· < ·)

theorem ris_ext : ∀ {l m : List Int}, Ris l → Ris m → (∀ x, x ∈ l ↔ x ∈ m) → l = m
  | [], [], _, _, _ => rfl
  | [], b :: m, _, _, h => absurd ((h b).2 List.mem_cons_self) (by simp)
  | a :: l, [], _, _, h => absurd ((h a).1 List.mem_cons_self) (by simp)
  | a :: l, b :: m, h1, h2, h => by
    obtain ⟨p1, q1⟩ := List.pairwise_cons.1 h1
    obtain ⟨p2, q2⟩ := List.pairwise_cons.1 h2
    have e : a = b := by
      rcases List.mem_cons.1 ((h a).1 List.mem_cons_self) with e | e
      · exact e
      · rcases List.mem_cons.1 ((h b).2 List.mem_cons_self) with e' | e'
        · exact e'.symm
        · have := p2 a e
          have := p1 b e'
          omega
    subst e
    rw [ris_ext q1 q2 (fun x => ⟨fun hx => by
      rcases List.mem_cons.1 ((h x).1 (List.mem_cons_of_mem _ hx)) with e | e
      · have := p1 x hx
        omega
      · exact e, fun hx => by
      rcases List.mem_cons.1 ((h x).2 (List.mem_cons_of_mem _ hx)) with e | e
      · have := p2 x hx
        omega
      · exact e⟩)]

theorem ris_nodup {l : List Int} (h : Ris l) : l.Nodup := h.imp (fun h e => by omega)
theorem ris_le {l : List Int} (h : Ris l) : l.Pairwise (· ≤ ·) := h.imp (fun h => Int.le_of_lt h)
theorem ris_filter {l : List Int} (h : Ris l) (f : Int → Bool) : Ris (l.filter f) := List.Pairwise.sublist List.filter_sublist h

theorem sorted_merge {s : List Int} (h : s.Pairwise (· ≤ ·)) : s.mergeSort leI = s := List.mergeSort_of_pairwise (h.imp (fun h => by simpa [leI] using h))
theorem merge_sorted (l : List Int) : (l.mergeSort leI).Pairwise (· ≤ ·) := by
  have tr : ∀ a b c : Int, leI a b = true → leI b c = true → leI a c = true := fun a b c h1 h2 => by simp only [leI, decide_eq_true_eq] at *; omega
  have to : ∀ a b : Int, (leI a b || leI b a) = true := fun a b => by simp only [leI, Bool.or_eq_true, decide_eq_true_eq]; omega
  exact (List.pairwise_mergeSort tr to l).imp (fun h => by simpa [leI] using h)
theorem merge_ris {l : List Int} (h : l.Nodup) : Ris (l.mergeSort leI) := by
  have hn : (l.mergeSort leI).Nodup := (List.mergeSort_perm l leI).nodup_iff.2 h
  exact List.Pairwise.imp₂ (fun a b h1 h2 => by omega) (merge_sorted l) hn

/-- Those above 0, each once, in the order of coming. -/
def nwk (zs : List Int) : List Int := zs.foldl (fun l x => if 0 < x ∧ x ∉ l then l ++ [x] else l) []
theorem nwk_snoc (zs : List Int) (x : Int) : nwk (zs ++ [x]) = if 0 < x ∧ x ∉ nwk zs then nwk zs ++ [x] else nwk zs := by
  rw [nwk, List.foldl_append]
  rfl

theorem snoc_ind {P : List Int → Prop} (h0 : P []) (h1 : ∀ l x, P l → P (l ++ [x])) (l : List Int) : P l := by
  have : ∀ m : List Int, P m.reverse := fun m => by
    induction m with
    | nil => exact h0
    | cons a m ih =>
      rw [List.reverse_cons]
      exact h1 _ _ ih
  have h := this l.reverse
  rwa [List.reverse_reverse] at h
theorem mem_nwk (zs : List Int) (x : Int) : x ∈ nwk zs ↔ 0 < x ∧ x ∈ zs := by
  induction zs using snoc_ind with
  | h0 => simp [nwk]
  | h1 l y ih =>
    rw [nwk_snoc]
    split
    · rename_i h
      rw [List.mem_append, ih, List.mem_append]
      constructor
      · rintro (⟨h1, h2⟩ | h1)
        · exact ⟨h1, .inl h2⟩
        · simp only [List.mem_cons, List.not_mem_nil, or_false] at h1
          subst h1
          exact ⟨h.1, .inr (by simp)⟩
      · rintro ⟨h1, h2 | h2⟩
        · exact .inl ⟨h1, h2⟩
        · exact .inr h2
    · rename_i h
      rw [ih, List.mem_append]
      constructor
      · rintro ⟨h1, h2⟩
        exact ⟨h1, .inl h2⟩
      · rintro ⟨h1, h2 | h2⟩
        · exact ⟨h1, h2⟩
        · simp only [List.mem_cons, List.not_mem_nil, or_false] at h2
          subst h2
          have h3 : x ∈ nwk l := Decidable.byContradiction fun h4 => h ⟨h1, h4⟩
          exact ih.1 h3
theorem nwk_nodup (zs : List Int) : (nwk zs).Nodup := by
  induction zs using snoc_ind with
  | h0 => simp [nwk]
  | h1 l y ih =>
    rw [nwk_snoc]
    split
    · rename_i h
      refine List.nodup_append.2 ⟨ih, by simp, fun a ha b hb e => ?_⟩
      simp only [List.mem_cons, List.not_mem_nil, or_false] at hb
      subst hb e
      exact h.2 ha
    · exact ih
theorem nwk_length (zs : List Int) : (nwk zs).length ≤ zs.length := by
  induction zs using snoc_ind with
  | h0 => simp [nwk]
  | h1 l y ih =>
    rw [nwk_snoc]
    split <;> simp <;> omega

/-- Those above 0, each once, rising. -/
def setOf (zs : List Int) : List Int := (nwk zs).mergeSort leI
theorem mem_setOf (zs : List Int) (x : Int) : x ∈ setOf zs ↔ 0 < x ∧ x ∈ zs := by rw [setOf, List.mem_mergeSort, mem_nwk]
theorem setOf_ris (zs : List Int) : Ris (setOf zs) := merge_ris (nwk_nodup zs)
theorem setOf_length (zs : List Int) : (setOf zs).length ≤ zs.length := by rw [setOf, List.length_mergeSort]; exact nwk_length zs
theorem setOf_pos (zs : List Int) : ∀ x ∈ setOf zs, 0 < x := fun x hx => ((mem_setOf zs x).1 hx).1
theorem setOf_eq {zs L : List Int} (h : Ris L) (hm : ∀ x, x ∈ L ↔ 0 < x ∧ x ∈ zs) : setOf zs = L := ris_ext (setOf_ris zs) h (fun x => by rw [mem_setOf, hm])
theorem setOf_nil : setOf [] = [] := setOf_eq List.Pairwise.nil (by simp)

/-- Held ahead, and no more. -/
def gone (L zs : List Int) : List Int := L.filter fun x => decide (x ∉ zs)
theorem mem_gone (L zs : List Int) (x : Int) : x ∈ gone L zs ↔ x ∈ L ∧ x ∉ zs := by simp [gone]
theorem gone_ris {L : List Int} (h : Ris L) (zs : List Int) : Ris (gone L zs) := ris_filter h _
theorem gone_length (L zs : List Int) : (gone L zs).length ≤ L.length := List.length_filter_le _ _
theorem gone_nil (L : List Int) : gone L [] = L := by simp [gone]
theorem gone_none (zs : List Int) : gone [] zs = [] := rfl
theorem gone_set (zs : List Int) : gone (setOf zs) zs = [] := by
  rw [gone, List.filter_eq_nil_iff]
  intro x hx
  simpa using ((mem_setOf zs x).1 hx).2
theorem gone_snoc {L : List Int} (zs : List Int) (x : Int) : gone L (zs ++ [x]) = (gone L zs).filter fun y => decide (y ≠ x) := by
  rw [gone, gone, List.filter_filter]
  refine List.filter_congr fun y _ => ?_
  simp only [List.mem_append, List.mem_cons, List.not_mem_nil, or_false, not_or, ne_eq, Bool.decide_and]
  rw [Bool.and_comm]

/-! Sets as lists of numbers with nothing. -/
def un (l : List Int) : List (Int × Unit) := l.map fun x => (x, ())
theorem keys_un (l : List Int) : keys (un l) = l := by rw [keys, un, List.map_map]; exact List.map_id l
theorem un_length (l : List Int) : (un l).length = l.length := by simp [un]
theorem gt_un (l : List Int) (k : Int) : gt (un l) k = if k ∈ l then some () else none := by
  cases h : gt (un l) k with
  | none =>
    have := gt_none.1 h
    rw [keys_un] at this
    rw [if_neg this]
  | some q =>
    have h1 : (gt (un l) k).isSome = true := by rw [h]; rfl
    have := gt_some.1 h1
    rw [keys_un] at this
    rw [if_pos this]
theorem rp_congr {α : Type} {dat : α → DataW Unit} {z : α} {D : DataW Unit} {l m : List (Int × α)} (h : Rp dat z D l) (e : ∀ k, gt l k = gt m k) : Rp dat z D m := fun k => by rw [← e k]; exact h k

/-- One more for each. -/
def bmp (T : List (Int × Int)) (x : Int) : List (Int × Int) := wr T x ((gt T x).getD 0 + 1)
/-- The map of counts: how often each was told. -/
structure Cnt (T : List (Int × Int)) (told : List Int) : Prop where
  nd : (keys T).Nodup
  len : T.length ≤ told.length
  cnt : ∀ x, (gt T x).getD 0 = (told.count x : Int)
theorem Cnt.one {T : List (Int × Int)} {told : List Int} (h : Cnt T told) (x : Int) : Cnt (bmp T x) (told ++ [x]) :=
  ⟨keys_wr h.nd x _, by rw [List.length_append]; exact Nat.le_trans (wr_length _ _ _) (Nat.add_le_add_right h.len 1), fun y => by
    rw [bmp, gt_wr, List.count_append]
    by_cases e : y = x
    · subst e
      rw [if_pos rfl, Option.getD_some, h.cnt]
      simp
    · rw [if_neg e, h.cnt, List.count_singleton]
      have : (x == y) = false := by simpa using fun h => e h.symm
      simp [this]⟩
theorem cnt0 : Cnt [] [] := ⟨List.nodup_nil, Nat.le_refl _, fun _ => rfl⟩
end Go.Proofs.Ytmihmajhfoghpaa
