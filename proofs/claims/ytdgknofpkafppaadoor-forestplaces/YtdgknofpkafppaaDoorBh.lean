/- Numbers in rising order, each once; what is held, and what was told; no walk. -/
import Derived.Test.YtdgknofpkafppaaDoorBa
import Derived.Test.YtdgknofpkafppaaDoorBg
import Derived.Lib.OwnBridge
import Derived.Sort.OwnSortedInts
import Derived.Test.YtdgknofpkafppaaDoorBd
import Derived.Test.YtdgknofpkafppaaDoorBb
import Derived.Test.YtdgknofpkafppaaDoorChecked
import Derived.BigQuiet
namespace Go.Proofs.YtdgknofpkafppaaDoor
open Go Go.RowKit

/-- Rising, each once. -/
abbrev Ris (l : List Int) : Prop := l.Pairwise (· < ·)

theorem ris_ext : ∀ {l m : List Int}, Ris l → Ris m → (∀ x, x ∈ l ↔ x ∈ m) → l = m
  | [], [], _, _, _ => rfl
  | [], b :: m, _, _, h => absurd ((h b).2 List.mem_cons_self) (by simp)
  | a :: l, [], _, _, h => absurd ((h a).1 List.mem_cons_self) (by simp)
  | a :: l, b :: m, h1, h2, h => by
    obtain ⟨p1, q1⟩ := List.pairwise_cons.1 h1
    obtain ⟨p2, q2⟩ := List.pairwise_cons.1 h2
    have e : a = b := by
      rcases List.mem_cons.1 ((h a).1 List.mem_cons_self) with e | e
      · exact e
      · rcases List.mem_cons.1 ((h b).2 List.mem_cons_self) with e' | e'
        · exact e'.symm
        · have := p2 a e
          have := p1 b e'
          omega
    subst e
    rw [ris_ext q1 q2 (fun x => ⟨fun hx => by
      rcases List.mem_cons.1 ((h x).1 (List.mem_cons_of_mem _ hx)) with e | e
      · have := p1 x hx
        omega
      · exact e, fun hx => by
      rcases List.mem_cons.1 ((h x).2 (List.mem_cons_of_mem _ hx)) with e | e
      · have := p2 x hx
        omega
      · exact e⟩)]

theorem ris_nodup {l : List Int} (h : Ris l) : l.Nodup := h.imp (fun h e => by omega)
theorem ris_le {l : List Int} (h : Ris l) : l.Pairwise (· ≤ ·) := h.imp (fun h => Int.le_of_lt h)
theorem ris_filter {l : List Int} (h : Ris l) (f : Int → Bool) : Ris (l.filter f) := List.Pairwise.sublist List.filter_sublist h

theorem sorted_merge {s : List Int} (h : s.Pairwise (· ≤ ·)) : s.mergeSort leI = s := List.mergeSort_of_pairwise (h.imp (fun h => by simpa [leI] using h))
theorem merge_sorted (l : List Int) : (l.mergeSort leI).Pairwise (· ≤ ·) := by
  have tr : ∀ a b c : Int, leI a b = true → leI b c = true → leI a c = true := fun a b c h1 h2 => by simp only [leI, decide_eq_true_eq] at *; omega
  have tt : ∀ a b : Int, (leI a b || leI b a) = true := fun a b => by simp only [leI, Bool.or_eq_true, decide_eq_true_eq]; omega
  exact (List.pairwise_mergeSort tr tt l).imp (fun h => by simpa [leI] using h)
theorem merge_ris {l : List Int} (h : l.Nodup) : Ris (l.mergeSort leI) := by
  have hn : (l.mergeSort leI).Nodup := (List.mergeSort_perm l leI).nodup_iff.2 h
  exact List.Pairwise.imp₂ (fun a b h1 h2 => by omega) (merge_sorted l) hn

/-- Those above 0, each once, in the order of coming. -/
def nwk (zs : List Int) : List Int := zs.foldl (fun l x => if 0 < x ∧ x ∉ l then l ++ [x] else l) []
theorem nwk_snoc (zs : List Int) (x : Int) : nwk (zs ++ [x]) = if 0 < x ∧ x ∉ nwk zs then nwk zs ++ [x] else nwk zs := by
  rw [nwk, List.foldl_append]
  rfl

theorem snoc_ind {P : List Int → Prop} (h0 : P []) (h1 : ∀ l x, P l → P (l ++ [x])) (l : List Int) : P l := by
  have : ∀ m : List Int, P m.reverse := fun m => by
    induction m with
    | nil => exact h0
    | cons a m ih =>
      rw [List.reverse_cons]
      exact h1 _ _ ih
  have h := this l.reverse
  rwa [List.reverse_reverse] at h
theorem mem_nwk (zs : List Int) (x : Int) : x ∈ nwk zs ↔ 0 < x ∧ x ∈ zs := by
  induction zs using snoc_ind with
  | h0 => simp [nwk]
  | h1 l y ih =>
    rw [nwk_snoc]
    split
    · rename_i h
      rw [List.mem_append, ih, List.mem_append]
      constructor
      · rintro (⟨h1, h2⟩ | h1)
        · exact ⟨h1, .inl h2⟩
        · simp only [List.mem_cons, List.not_mem_nil, or_false] at h1
          subst h1
          exact ⟨h.1, .inr (by simp)⟩
      · rintro ⟨h1, h2 | h2⟩
        · exact .inl ⟨h1, h2⟩
        · exact .inr h2
    · rename_i h
      rw [ih, List.mem_append]
      constructor
      · rintro ⟨h1, h2⟩
        exact ⟨h1, .inl h2⟩
      · rintro ⟨h1, h2 | h2⟩
        · exact ⟨h1, h2⟩
        · simp only [List.mem_cons, List.not_mem_nil, or_false] at h2
          subst h2
          have h3 : x ∈ nwk l := Decidable.byContradiction fun h4 => h ⟨h1, h4⟩
          exact ih.1 h3
theorem nwk_nodup (zs : List Int) : (nwk zs).Nodup := by
  induction zs using snoc_ind with
  | h0 => simp [nwk]
  | h1 l y ih =>
    rw [nwk_snoc]
    split
    · rename_i h
      refine List.nodup_append.2 ⟨ih, by simp, fun a ha b hb e => ?_⟩
      simp only [List.mem_cons, List.not_mem_nil, or_false] at hb
      subst hb e
      exact h.2 ha
    · exact ih
theorem nwk_length (zs : List Int) : (nwk zs).length ≤ zs.length := by
  induction zs using snoc_ind with
  | h0 => simp [nwk]
  | h1 l y ih =>
    rw [nwk_snoc]
    split <;> simp <;> omega

/-- Those above 0, each once, rising. -/
def setOf (zs : List Int) : List Int := (nwk zs).mergeSort leI
theorem mem_setOf (zs : List Int) (x : Int) : x ∈ setOf zs ↔ 0 < x ∧ x ∈ zs := by rw [setOf, List.mem_mergeSort, mem_nwk]
theorem setOf_ris (zs : List Int) : Ris (setOf zs) := merge_ris (nwk_nodup zs)
theorem setOf_length (zs : List Int) : (setOf zs).length ≤ zs.length := by rw [setOf, List.length_mergeSort]; exact nwk_length zs
theorem setOf_pos (zs : List Int) : ∀ x ∈ setOf zs, 0 < x := fun x hx => ((mem_setOf zs x).1 hx).1
theorem setOf_eq {zs L : List Int} (h : Ris L) (hm : ∀ x, x ∈ L ↔ 0 < x ∧ x ∈ zs) : setOf zs = L := ris_ext (setOf_ris zs) h (fun x => by rw [mem_setOf, hm])
theorem setOf_nil : setOf [] = [] := setOf_eq List.Pairwise.nil (by simp)

/-- Held ahead, and no more. -/
def gone (L zs : List Int) : List Int := L.filter fun x => decide (x ∉ zs)
theorem mem_gone (L zs : List Int) (x : Int) : x ∈ gone L zs ↔ x ∈ L ∧ x ∉ zs := by simp [gone]
theorem gone_ris {L : List Int} (h : Ris L) (zs : List Int) : Ris (gone L zs) := ris_filter h _
theorem gone_length (L zs : List Int) : (gone L zs).length ≤ L.length := List.length_filter_le _ _
theorem gone_nil (L : List Int) : gone L [] = L := by simp [gone]
theorem gone_none (zs : List Int) : gone [] zs = [] := rfl
theorem gone_set (zs : List Int) : gone (setOf zs) zs = [] := by
  rw [gone, List.filter_eq_nil_iff]
  intro x hx
  simpa using ((mem_setOf zs x).1 hx).2
theorem gone_snoc {L : List Int} (zs : List Int) (x : Int) : gone L (zs ++ [x]) = (gone L zs).filter fun y => decide (y ≠ x) := by
  rw [gone, gone, List.filter_filter]
  refine List.filter_congr fun y _ => ?_
  simp only [List.mem_append, List.mem_cons, List.not_mem_nil, or_false, not_or, ne_eq, Bool.decide_and]
  rw [Bool.and_comm]

/-! Sets as lists of numbers with nothing. -/
def un (l : List Int) : List (Int × Unit) := l.map fun x => (x, ())
theorem keys_un (l : List Int) : keys (un l) = l := by rw [keys, un, List.map_map]; exact List.map_id l
theorem un_length (l : List Int) : (un l).length = l.length := by simp [un]
theorem gt_un (l : List Int) (k : Int) : gt (un l) k = if k ∈ l then some () else none := by
  cases h : gt (un l) k with
  | none =>
    have := gt_none.1 h
    rw [keys_un] at this
    rw [if_neg this]
  | some q =>
    have h1 : (gt (un l) k).isSome = true := by rw [h]; rfl
    have := gt_some.1 h1
    rw [keys_un] at this
    rw [if_pos this]
theorem rp_congr {α : Type} {dat : α → DataW Unit} {z : α} {D : DataW Unit} {l m : List (Int × α)} (h : Rp dat z D l) (e : ∀ k, gt l k = gt m k) : Rp dat z D m := fun k => by rw [← e k]; exact h k

/-- One more for each. -/
def bmp (T : List (Int × Int)) (x : Int) : List (Int × Int) := wr T x ((gt T x).getD 0 + 1)
/-- The map of counts: how often each was told. -/
structure Cnt (T : List (Int × Int)) (told : List Int) : Prop where
  nd : (keys T).Nodup
  len : T.length ≤ told.length
  cnt : ∀ x, (gt T x).getD 0 = (told.count x : Int)
theorem Cnt.one {T : List (Int × Int)} {told : List Int} (h : Cnt T told) (x : Int) : Cnt (bmp T x) (told ++ [x]) :=
  ⟨keys_wr h.nd x _, by rw [List.length_append]; exact Nat.le_trans (wr_length _ _ _) (Nat.add_le_add_right h.len 1), fun y => by
    rw [bmp, gt_wr, List.count_append]
    by_cases e : y = x
    · subst e
      rw [if_pos rfl, Option.getD_some, h.cnt]
      simp
    · rw [if_neg e, h.cnt, List.count_singleton]
      have : (x == y) = false := by simpa using fun h => e h.symm
      simp [this]⟩
theorem cnt0 : Cnt [] [] := ⟨List.nodup_nil, Nat.le_refl _, fun _ => rfl⟩
end Go.Proofs.YtdgknofpkafppaaDoor

/- The program's forest: Held, All. -/
namespace Go.Proofs.YtdgknofpkafppaaDoor
open Go Go.RowKit Go.Maps Go.Sort Go.Shelf

theorem compact_upto (d : Array Int) (hd : ∀ i j, i ≤ j → j < d.size → d[i]! ≤ d[j]!) : ∀ m, m ≤ d.size → (Lib.compactUpTo d m).Pairwise (· < ·) ∧ (∀ x ∈ Lib.compactUpTo d m, 0 < m ∧ x ≤ d[m - 1]!) ∧ ∀ x, x ∈ Lib.compactUpTo d m ↔ ∃ i < m, d[i]! = x
  | 0, _ => by simp [Lib.compactUpTo]
  | m + 1, hm => by
    obtain ⟨h1, h2, h3⟩ := compact_upto d hd m (by omega)
    rw [Lib.compactUpTo_succ]
    by_cases hk : Lib.keeps d m = true
    · rw [if_pos hk]
      have hlt : ∀ x ∈ Lib.compactUpTo d m, x < d[m]! := fun x hx => by
        obtain ⟨g1, g2⟩ := h2 x hx
        have g3 := hd (m - 1) m (by omega) (by omega)
        have g4 : m = 0 ∨ d[m]! ≠ d[m - 1]! := by simpa [Lib.keeps] using hk
        rcases g4 with g4 | g4
        · omega
        · have : d[m - 1]! ≠ d[m]! := fun e => g4 e.symm
          omega
      refine ⟨?_, fun x hx => ?_, fun x => ?_⟩
      · rw [List.pairwise_append]
        exact ⟨h1, by simp, fun x hx y hy => by simp only [List.mem_singleton] at hy; rw [hy]; exact hlt x hx⟩
      · refine ⟨by omega, ?_⟩
        rcases List.mem_append.1 hx with hx | hx
        · have := hlt x hx; rw [Nat.add_sub_cancel]; omega
        · simp only [List.mem_singleton] at hx; rw [hx, Nat.add_sub_cancel]; exact Int.le_refl _
      · rw [List.mem_append, h3]
        constructor
        · rintro (⟨i, hi, e⟩ | hx)
          · exact ⟨i, by omega, e⟩
          · simp only [List.mem_singleton] at hx; exact ⟨m, by omega, hx.symm⟩
        · rintro ⟨i, hi, e⟩
          rcases Nat.lt_or_ge i m with h | h
          · exact .inl ⟨i, h, e⟩
          · obtain rfl : i = m := by omega
            exact .inr (by simp [e])
    · rw [if_neg hk, List.append_nil]
      have g : m ≠ 0 ∧ d[m]! = d[m - 1]! := by simpa [Lib.keeps] using hk
      refine ⟨h1, fun x hx => ⟨by omega, ?_⟩, fun x => ?_⟩
      · rw [Nat.add_sub_cancel, g.2]; exact (h2 x hx).2
      · rw [h3]
        constructor
        · rintro ⟨i, hi, e⟩; exact ⟨i, by omega, e⟩
        · rintro ⟨i, hi, e⟩
          rcases Nat.lt_or_ge i m with h | h
          · exact ⟨i, h, e⟩
          · obtain rfl : i = m := by omega
            exact ⟨i - 1, by omega, by rw [← g.2]; exact e⟩

theorem below_grow {B : Nat} {w0 w : World} (h : RowKit.Below B w0 w) (hB : B ≤ w.heap.size) (os : Array Obj) : RowKit.Below B w0 (Sort.grow w os) :=
  ⟨h.os, h.tape, h.output, by rw [size_grow]; have := h.size; omega, fun k hk => by
    rw [← h.block k hk]
    unfold Sort.grow
    simp only
    rw [Array.getElem?_append_left (by omega)]⟩

theorem compact_len (zs : List Int) : (Lib.compact zs).length ≤ zs.length := by
  rw [Lib.compact, Lib.compactUpTo, List.length_map]
  exact Nat.le_trans (List.length_filter_le _ _) (by simp)


/-- Sorted, and each once: rising, with the same numbers. -/
theorem compact_ris (l : List Int) : Ris (Lib.compact (l.mergeSort fun x y => decide (x ≤ y))) ∧ ∀ x, x ∈ Lib.compact (l.mergeSort fun x y => decide (x ≤ y)) ↔ x ∈ l := by
  obtain ⟨zs, hz⟩ : ∃ zs, zs = l.mergeSort fun x y => decide (x ≤ y) := ⟨_, rfl⟩
  have hp : zs.Pairwise (fun a b => decide (a ≤ b) = true) := by
    rw [hz]
    exact List.pairwise_mergeSort (fun a b c h1 h2 => by simp at h1 h2 ⊢; omega) (fun a b => by simp; omega) _
  have hm : ∀ x, x ∈ zs ↔ x ∈ l := fun x => by rw [hz]; exact (List.mergeSort_perm _ _).mem_iff
  rw [← hz]
  have hg : ∀ i, i < zs.toArray.size → zs.toArray[i]! = zs[i]! := fun i hi => by simp
  obtain ⟨h1, _, h3⟩ := compact_upto zs.toArray (fun i j hij hj => by
    rw [hg i (by omega), hg j hj]
    simp only [List.size_toArray] at hj
    rw [getElem!_pos zs i (by omega), getElem!_pos zs j hj]
    rcases Nat.lt_or_ge i j with h | h
    · have := List.pairwise_iff_getElem.1 hp i j (by omega) hj h
      simpa using this
    · obtain rfl : i = j := by omega
      exact Int.le_refl _) zs.toArray.size (Nat.le_refl _)
  have e : Lib.compact zs = Lib.compactUpTo zs.toArray zs.toArray.size := by rw [Lib.compact, List.size_toArray]
  refine ⟨by rw [e]; exact h1, fun x => ?_⟩
  rw [e, h3, ← hm]
  constructor
  · rintro ⟨i, hi, e⟩
    rw [hg i hi] at e
    simp only [List.size_toArray] at hi
    rw [getElem!_pos zs i hi] at e
    rw [← e]
    exact List.getElem_mem hi
  · intro h
    obtain ⟨i, hi, e⟩ := List.mem_iff_getElem.1 h
    exact ⟨i, by simpa using hi, by rw [hg i (by simpa using hi), getElem!_pos zs i hi]; exact e⟩

theorem sortedZ {w u : World} {v : Value} {zs : List Int} (h : OwZ w u v zs) (hn : zs.length ≤ 4000000) :
    Calls Tryd.prog 43 #[v] u fun e u1 => e = .returned (.tuple #[]) ∧ Calls Tryd.prog 44 #[v] u1 fun e u2 => ∃ v' ys, e = .returned v' ∧ OwZ w u2 v' ys ∧ Ris ys ∧ ∀ x, x ∈ ys ↔ x ∈ zs := by
  obtain ⟨hris, hmem⟩ := compact_ris zs
  rcases h.own.2 with ⟨rfl, h0⟩ | ⟨g, cap, cur, rfl, hb, hg, hnc, hm, hcs, ht⟩
  · obtain rfl : zs = [] := List.eq_nil_of_length_eq_zero h0
    refine (AnyM.slices_Sort_int_none sortA none 0 u).mono ?_
    rintro e u1 ⟨rfl, rfl⟩
    refine ⟨rfl, (AnyG.slices_Compact_int_empty compA none 0 _).mono ?_⟩
    rintro e u2 ⟨rfl, rfl⟩
    exact ⟨_, [], rfl, ⟨World.ownsRow_nil _ _ _ _, h.bel⟩, List.Pairwise.nil, fun x => Iff.rfl⟩
  · have hgl := (h.own.lt g rfl)
    obtain ⟨_, _, e0, _, _, _, _, _, hH⟩ := Lib.holds_of_ownsRow (enc := Value.int .i64) h.own (by simp)
    cases e0
    refine (AnyM.slices_Sort_int sortA g 0 cap zs u hH hgl.2 (by omega)).mono ?_
    rintro e u1 ⟨rfl, n, os, rfl⟩
    have hlen : (zs.mergeSort fun x y => decide (x ≤ y)).length = zs.length := List.length_mergeSort _
    have own1 := ownsRow_sortedI (w := u) (base := w.heap.size) (g := g) (cap := cap) (n := n) (os := os) (e := 3) (ss := zs) (ts := zs.mergeSort fun x y => decide (x ≤ y)) hlen hb hg hnc hm hcs
    have bel1 : RowKit.Below w.heap.size w (Sort.grow (putRow (Value.int .i64) (Sort.ahead u n) g 0 (zs.mergeSort fun x y => decide (x ≤ y)).toArray) os) := below_grow (Lib.below_putRow h.bel hb) (by
      have := h.bel.size
      simpa [putRow, mapBlock, Sort.ahead] using this) os
    refine ⟨rfl, ?_⟩
    generalize Sort.grow (putRow (Value.int .i64) (Sort.ahead u n) g 0 (zs.mergeSort fun x y => decide (x ≤ y)).toArray) os = u1 at own1 bel1
    generalize (zs.mergeSort fun x y => decide (x ≤ y)) = ss at own1 hlen hris hmem
    rw [← hlen] at own1 hnc ⊢
    obtain ⟨_, _, e0, _, _, _, _, _, hH1⟩ := Lib.holds_of_ownsRow (enc := Value.int .i64) own1 (by simp)
    cases e0
    refine (AnyG.slices_Compact_int compA g 0 cap ss u1 hH1 (by omega) hnc).mono ?_
    rintro e u2 ⟨rfl, q, rfl⟩
    have hc := compact_len ss
    have own2 := Lib.ownsRow_putRow (enc := Value.int .i64) (q := q) (k := (Lib.compact ss).length) own1 (ys := Lib.compact ss ++ List.replicate (ss.length - (Lib.compact ss).length) 0) (by simp; omega) hc
    rw [List.take_left] at own2
    exact ⟨_, _, rfl, ⟨own2, Lib.below_putRow bel1 hb⟩, hris, hmem⟩

variable {base B : Nat} {w u w' : World} {p m : Nat} {L L' : Po} {F : Fo} {id : Int} {es : List Addr} {e : Ps}
/-- What a surface holds. -/
def hlx (e : Ps) : List Int := (if e.s.ca.at_ = true ∧ 0 < e.s.ca.buf then [e.s.ca.buf] else []) ++ (if 0 < e.s.no.buf then [e.s.no.buf] else [])
theorem hlx_len (e : Ps) : (hlx e).length ≤ 2 := by
  unfold hlx
  split <;> split <;> simp
/-- A round of Held's loop. -/
structure He (w : World) (m : Nat) (L : Po) (D : DataW Unit) (r : Nat) (v : Value) (left : Lit → Bool) (cnt : Nat) (zs : List Int) (wr : World) : Prop where
  rg : wr.ranges Tryd.prog 3 ptR m r L.length D left cnt
  own : OwZ w wr v zs
  lo : w.heap.size ≤ r
  ne : v.ownBlock ≠ some r
  mem : ∀ x, x ∈ zs ↔ ∃ k e, gt L k = some e ∧ left (.int .i64 k) = false ∧ x ∈ hlx e
  len : zs.length + 2 * cnt ≤ 2 * L.length
theorem mem_hldL (L : Po) (hn : (keys L).Nodup) (x : Int) : (∃ k e, gt L k = some e ∧ x ∈ hlx e) ↔ 0 < x ∧ x ∈ hldL (pab L) := by
  have hx : ∀ e : Ps, x ∈ hlx e ↔ 0 < x ∧ x ∈ (bif e.s.f.ca.at_ then [e.s.f.ca.buf] else []) ++ [e.s.f.no.buf] := fun e => by
    show _ ↔ 0 < x ∧ x ∈ (bif e.s.ca.at_ then [e.s.ca.buf] else []) ++ [e.s.no.buf]
    unfold hlx
    cases e.s.ca.at_
    · simp only [Bool.false_eq_true, false_and, if_false, List.nil_append, cond_false, List.mem_singleton]
      constructor
      · intro h
        split at h
        · simp at h
          exact ⟨by omega, h⟩
        · cases h
      · rintro ⟨h0, h⟩
        rw [if_pos (by omega)]
        simp [h]
    · simp only [true_and, cond_true, List.mem_append, List.mem_singleton]
      constructor
      · rintro (h | h)
        · split at h
          · simp at h
            exact ⟨by omega, .inl h⟩
          · cases h
        · split at h
          · simp at h
            exact ⟨by omega, .inr h⟩
          · cases h
      · rintro ⟨h0, h | h⟩
        · exact .inl (by rw [if_pos (by omega)]; simp [h])
        · exact .inr (by rw [if_pos (by omega)]; simp [h])
  rw [hldL, List.mem_flatMap]
  constructor
  · rintro ⟨k, e, he, h⟩
    obtain ⟨h0, h1⟩ := (hx e).1 h
    exact ⟨h0, (k, e.s.f), List.mem_map.2 ⟨(k, e), gt_mem he, rfl⟩, h1⟩
  · rintro ⟨h0, y, hy, h⟩
    obtain ⟨z, hz, rfl⟩ := List.mem_map.1 hy
    exact ⟨z.1, z.2, gt_of_mem hn hz, (hx z.2).2 ⟨h0, h⟩⟩
/-- An entry that comes. -/
theorem He.come {D : DataW Unit} {r cnt : Nat} {v : Value} {left : Lit → Bool} {zs : List Int} {wr w2 : World} (h : He w m L D r v left cnt zs wr) (h1 : Pf base w p m L) (hD : Rp ptd none D (pmp L)) {x : Int} {c : Option Nat} {kl : Lit} {y : DataW Unit × List MemPlace} {cnt' : Nat}
    (hk : keyOf Tryd.prog 3 (.int .i64 x) = some kl) (hl : left kl = true) (hv : ptR (ptv c) = some y) (hat : ∀ zd, D.atKey kl zd = y.1) (hr : w2.ranges Tryd.prog 3 ptR m r L.length D (fun z => left z && !z.sameKey kl) cnt') (hlt : cnt' < cnt) (hg : wr.grownBy w2 (some r)) :
    ∃ e1, gt L x = some e1 ∧ c = some e1.g ∧ Pf base w2 p m L ∧ Below w.heap.size w w2 ∧ OwZ w w2 v zs ∧ r < w2.heap.size ∧
      ∀ (w3 : World) (v3 : Value), OwZ w w3 v3 (zs ++ hlx e1) → Kp v.ownBlock.toList w2 w3 → v3.ownBlock ≠ some r → ∃ lf cn zs', He w m L D r v3 lf cn zs' w3 ∧ cn < cnt := by
  obtain rfl : kl = .int .i64 x := by
    obtain ⟨z, h2, h3, _⟩ := Maps.keyOf_int_inv Tryd.underlying3 hk
    cases h2
    exact h3
  have hpt : c = (gt (pmp L) x).getD none := by
    have h2 := (hD x).2
    rw [hat] at h2
    have h3 : ptR (ptv c) = some (ptd c, []) := ptR_mk c
    rw [hv] at h3
    have h4 : y.1 = ptd c := by rw [Option.some.inj h3]
    rw [h4] at h2
    have h5 := ptR_mk c
    rw [h2] at h5
    have h6 := ptR_inv h5
    cases c with
    | none =>
      cases hq : (gt (pmp L) x).getD none with
      | none => rfl
      | some q => rw [hq] at h6; cases h6
    | some c =>
      cases hq : (gt (pmp L) x).getD none with
      | none => rw [hq] at h6; cases h6
      | some q =>
        rw [hq] at h6
        simp only [ptv, Value.pointer.injEq, Option.some.injEq, Addr.mk.injEq, and_true] at h6
        rw [h6]
  have hh : (gt (pmp L) x).isSome = true := by
    rw [← (hD x).1]
    cases hc : Maps.has D (.int .i64 x) with
    | true => rfl
    | false =>
      obtain ⟨es, clock, since, seen, c0, _, F, _, hDD, _, _, _, hl1, hl2, _⟩ := h.rg
      obtain ⟨z, hz, hkz⟩ := hl2 _ hl
      have : Maps.has D (.int .i64 x) = true := by
        rw [hDD]
        exact List.any_eq_true.2 ⟨Go.WideElems.rg Tryd.prog 3 ptR z, mem_sorted.2 (List.mem_map.2 ⟨z, hz, rfl⟩), by rw [hkz]; exact WideAt.sameKey_self trivial⟩
      rw [this] at hc
      cases hc
  rw [gt_pmp] at hh hpt
  obtain ⟨e1, he1⟩ : ∃ e1, gt L x = some e1 := by
    cases hq : gt L x with
    | none => rw [hq] at hh; cases hh
    | some e1 => exact ⟨e1, rfl⟩
  rw [he1] at hpt
  have hbel : Below w.heap.size w w2 := h.own.bel.grown hg (by have := h.own.bel.size; omega) (fun k hk => by cases hk; exact h.lo)
  have hown : OwZ w w2 v zs := ⟨(kp_of_grown hg).row h.own.own (fun b hb hm => by
    simp only [Option.toList_some, List.mem_cons, List.not_mem_nil, or_false] at hm
    rw [hm] at hb
    exact h.ne hb), hbel⟩
  refine ⟨e1, he1, hpt, h1.on hbel, hbel, hown, hr.lt, fun w3 v3 ho hkp hne => ⟨fun z => left z && !z.sameKey (.int .i64 x), cnt', _, ⟨?_, ho, h.lo, hne, fun z => ?_, ?_⟩, hlt⟩⟩
  · refine hr.kept (row := v.ownBlock) ⟨hkp.os, hkp.tape, hkp.output, hkp.size, fun k hk hn => hkp.block k hk (fun hm => hn (Option.mem_toList.1 hm).symm)⟩ ?_ ?_
    · intro e2
      have := (hown.own.lt m e2.symm).1
      have := h1.lt.2
      omega
    · exact fun e2 => h.ne e2.symm
  · rw [List.mem_append, h.mem]
    constructor
    · rintro (⟨k, e, hk, hlf, hz⟩ | hz)
      · exact ⟨k, e, hk, by simp [hlf], hz⟩
      · exact ⟨x, e1, he1, by simp [same_int], hz⟩
    · rintro ⟨k, e, hk', hlf, hz⟩
      rw [same_int] at hlf
      by_cases hkx : k = x
      · rw [hkx, he1] at hk'
        cases hk'
        exact .inr hz
      · exact .inl ⟨k, e, hk', by simpa [hkx] using hlf, hz⟩
  · have := hlx_len e1
    have := h.len
    rw [List.length_append]
    omega

/-- A row that grows, within a round. -/
structure Ay (w w3 : World) (v0 : Value) (W : World) (v : Value) (zs : List Int) : Prop where
  own : OwZ w W v zs
  kp : Kp v0.ownBlock.toList w3 W
  vn : ∀ b, v.ownBlock = some b → v0.ownBlock = some b ∨ w3.heap.size ≤ b
theorem Ay.app {w3 W w4 : World} {v0 v v4 : Value} {zs : List Int} {z : Int} (h : Ay w w3 v0 W v zs) (o4 : w4.ownsRow w.heap.size 3 1 v4 (zs.length + 1) (ic zs ++ ic [z])) (g4 : (W.alloc (.cells #[.int .i64 z] 3)).grownBy w4 v.ownBlock) (a4 : v4.ownBlock = v.ownBlock ∨ v4.ownBlock = some (W.alloc (.cells #[.int .i64 z] 3)).heap.size) : Ay w w3 v0 w4 v4 (zs ++ [z]) := by
  have hb := bel_new W (.cells #[.int .i64 z] 3)
  have hsz := h.kp.size
  have hk := kp_of_grown g4
  refine ⟨⟨by rw [List.length_append, ic_append]; exact o4, (Below.on h.own.bel hb).grown g4 (by rw [size_new]; have := h.own.bel.size; omega) (fun k hk => (h.own.own.lt k hk).1)⟩, (h.kp.trans (kp_of_below hb []) (fun k hk _ => by cases hk)).trans hk (fun k hk hlt => ?_), fun b hb' => ?_⟩
  · rcases h.vn k (by simpa using hk) with h1 | h1
    · simpa using h1
    · omega
  · rcases a4 with h1 | h1
    · rw [h1] at hb'
      exact h.vn b hb'
    · rw [h1, size_new] at hb'
      cases hb'
      exact .inr (by omega)

set_option maxRecDepth 100000 in
set_option maxHeartbeats 2000000 in
theorem fheld_any (h : Pf base w p m L) (hl : L.length ≤ 40) :
    Calls Tryd.prog 15 #[.pointer (some ⟨p, 0, none⟩)] w fun e' w' => ∃ v ys, e' = .returned v ∧ OwZ w w' v ys ∧ Ris ys ∧ ∀ x, x ∈ ys ↔ 0 < x ∧ x ∈ hldL (pab L) := by
  obtain ⟨D, hown, hD⟩ := h.own
  have HO := hid hown
  have HD := hid hD
  have H := hid h
  have c0 := h.c0
  have l0 := h.lt.1
  obtain ⟨i0, hi, hz0, hz1, hz2⟩ := infoMP infoM1
  have HHL := hid (mem_hldL L h.nd)
  clear h hown hD
  go_enter Tryd.func15, Tryd.ntmps15
  go_wp2_with (at_range; refine wpList_range_own _ rfl (.tmp 9) 52 rfl 3 55 (Maps.int_keyed Tryd.underlying3) Tryd.underlying52 ptR m _ D rfl HO.out ?_; intro w2 hrg hg2 hs2)
  have HS : Hid (He w m L D w.heap.size (.slice none 0 0) (Maps.has D) (Maps.size D) [] w2) := by
    refine ⟨hrg, ⟨World.ownsRow_nil _ _ _ _, ⟨hg2.os, hg2.tape, hg2.output, hg2.size, fun k hk => hg2.block k hk (by simp)⟩⟩, Nat.le_refl _, by simp [Value.ownBlock], fun x => ?_, ?_⟩
    · constructor
      · intro hx
        cases hx
      · rintro ⟨k, e, hk, hlf, _⟩
        rw [(HD.out k).1, gt_pmp, hk] at hlf
        cases hlf
    · have := psize HO.out Tryd.underlying3 HD.out (by rw [pmp_keys]; exact H.out.nd)
      rw [pmp_length] at this
      simp [this]
  clear hrg hg2 hs2
  go_frame
  go_loopw [3] (fun v wr => ∃ lf cn zs, He w m L D w.heap.size v lf cn zs wr) (fun _ wr => wr.rangeLeft m w.heap.size)
  case atStart => exact ⟨_, _, _, HS.out⟩
  case round =>
    obtain ⟨lf, cn, zs, hHe⟩ := hrel
    have HH := hid hHe
    clear hHe HS
    go_wp2_with (at_next; refine wpList_next_ranges _ rfl (.tmp 10) rfl 3 (Maps.int_keyed Tryd.underlying3) ptR (Value.int .i64) ptv (fun key kl hkey => by obtain ⟨x, rfl, _⟩ := Maps.keyOf_int_inv Tryd.underlying3 hkey; exact ⟨x, rfl⟩) (fun v y hv => ptR_val hv) m w.heap.size _ _ _ _ rfl HH.out.rg ?_ ?_)
    · intro hc0 hl0
      have HX : Hid (∀ ys : List Int, (∀ x, x ∈ ys ↔ x ∈ zs) → ∀ x, x ∈ ys ↔ 0 < x ∧ x ∈ hldL (pab L)) := fun ys hy x => by
        rw [hy, HH.out.mem, ← HHL.out]
        constructor
        · rintro ⟨k, e, h1, _, h3⟩
          exact ⟨k, e, h1, h3⟩
        · rintro ⟨k, e, h1, h3⟩
          exact ⟨k, e, h1, hl0 _, h3⟩
      have CSO := hid (sortedZ HH.out.own (by have := HH.out.len; omega))
      clear hc0 hl0 HH c0 l0
      go_wp2_with fail
      refine CSO.out.mono ?_
      rintro e' w4 ⟨rfl, hC⟩
      have HC := hid hC
      clear hC CSO
      go_wp2_with fail
      refine HC.out.mono ?_
      rintro e' w5 ⟨v5, ys, rfl, ho5, hr5, hm5⟩
      have HY : Hid (∃ v ys, Ending.returned v5 = .returned v ∧ OwZ w w5 v ys ∧ Ris ys ∧ ∀ x, x ∈ ys ↔ 0 < x ∧ x ∈ hldL (pab L)) := ⟨v5, ys, rfl, ho5, hr5, HX.out ys hm5⟩
      clear ho5 hr5 hm5 HC HX
      go_wp2
      go_ret
      exact HY.out
    · intro x c kl y1 y2 w3 cnt3 hkx hlx' hvx hat hrg3 hlt3 hg3 hs3 hen
      obtain ⟨e1, he1, rfl, hpf3, hb3, ho3, hr3, hfin⟩ := HH.out.come H.out HD.out (y := (y1, y2)) hkx hlx' hvx hat hrg3 hlt3 hg3
      have HLT : Hid (∀ k, k < cn → k < wr.rangeLeft m w.heap.size) := fun k hk => by rw [HH.out.rg.left_eq]; exact hk
      have hzl : zs.length ≤ 80 := by have := HH.out.len; omega
      have HFIN := hid hfin
      have HO3 := hid ho3
      have HNE := hid HH.out.ne
      have HLO := hid HH.out.lo
      obtain ⟨⟨-, -, -, -, -, -, -, -, -, -⟩, ⟨a0, a1, -, -, -, -, -, -, -, -⟩, ⟨-, b1, -, -, -, -, -, -, -, -⟩⟩ := hpf3.cells he1
      have l3 := (hpf3.wlt he1 (mem_wb.2 (.inl rfl))).2
      rw [ptv_some] at hen ⊢
      have HPF := hid hpf3
      have HE1 := hid he1
      have HAY0 : Hid (Ay w w3 u3 w3 u3 zs) := ⟨ho3, Kp.refl _ _, fun b hb => .inl hb⟩
      obtain ⟨y1s, hy1⟩ : ∃ ys, ys = if e1.s.ca.at_ = true ∧ 0 < e1.s.ca.buf then [e1.s.ca.buf] else [] := ⟨_, rfl⟩
      obtain ⟨y2s, hy2⟩ : ∃ ys, ys = if 0 < e1.s.no.buf then [e1.s.no.buf] else [] := ⟨_, rfl⟩
      have HHX : Hid (hlx e1 = y1s ++ y2s) := by rw [Hid, hlx, hy1, hy2]
      have HY1 := hid hy1
      have HY2 := hid hy2
      have HL3 := hid hr3
      have HL4 := hid l3
      have HPW := hid (fun (W : World) (hW : Below w.heap.size w W) => H.out.on hW)
      obtain ⟨va, vc, hvv⟩ := own_val ho3.own
      clear he1 hkx hlx' hvx hat hrg3 hlt3 hg3 hs3 hfin ho3 hpf3 HH c0 l0 hb3 hy1 hy2
      subst hvv
      obtain ⟨b27, hb27⟩ : ∃ b, b = (e1.s.ca.at_ && decide (e1.s.ca.buf > 0)) := ⟨_, rfl⟩
      have HB27 := hid hb27
      clear hb27
      go_upto_region 5 with fail
      go_cut [27] (fun v wc => v = .bool b27 ∧ wc = w3)
      case first =>
        cases hat1 : e1.s.ca.at_
        · have hb : b27 = false := by rw [HB27.out, hat1]; rfl
          rw [hat1] at a0
          go_wp2
          go_meet
          rw [hb]
          exact ⟨rfl, rfl⟩
        · have hb : b27 = decide (e1.s.ca.buf > 0) := by rw [HB27.out, hat1]; rfl
          rw [hat1] at a0
          go_wp2
          go_meet
          rw [hb]
          exact ⟨rfl, rfl⟩
      obtain ⟨rfl, hwc⟩ := hcut
      obtain rfl : w3 = wc := hwc.symm
      clear a0 hwc
      go_upto_if 27 with fail
      go_cut [3] (fun v wc => ∃ a c, v = .slice a (zs ++ y1s).length c ∧ Ay w w3 (.slice va zs.length vc) wc v (zs ++ y1s))
      case first =>
        cases hbb : b27
        · have hy : y1s = [] := by
            rw [HY1.out, if_neg]
            rintro ⟨h1, h2⟩
            rw [HB27.out, h1] at hbb
            simp at hbb
            omega
          go_wp2
          go_meet
          rw [hy, List.append_nil]
          exact ⟨_, _, rfl, HAY0.out⟩
        · have hy : y1s = [e1.s.ca.buf] := by
            rw [HY1.out, if_pos]
            rw [HB27.out] at hbb
            simp at hbb
            exact ⟨hbb.1, by omega⟩
          have HOW := hid (ownsRow_below HAY0.out.own.own (bel_new w3 (.cells #[.int .i64 e1.s.ca.buf] 3)))
          have HSL := hid (srcLit w3 e1.s.ca.buf)
          have hws : w.heap.size ≤ (w3.alloc (.cells #[.int .i64 e1.s.ca.buf] 3)).heap.size := by rw [size_new]; have := HAY0.out.own.bel.size; omega
          have HAP := hid (fun v4 w4 o4 g4 a4 => HAY0.out.app (v4 := v4) (w4 := w4) (z := e1.s.ca.buf) o4 g4 a4)
          generalize hzl2 : zs.length = zl at *
          go_wp2_with (at_builtin; refine wpList_append_own_at _ rfl (.tmp 28) (.tmp 34) 22 22 rfl w.heap.size 3 i0 (.int .i64 0) 1 8 Tryd.underlying22 hi hz0 hz1 hz2 rfl _ _ _ rfl HOW.out _ _ _ rfl HSL.out (by simp only [maxLen]; omega) (fitsM (by omega) (by decide)) hws ?_; intro v4 w4 o4 g4 a4; obtain ⟨av, cv, hv4⟩ := own_val o4; have HX := hid (HAP.out v4 w4 o4 g4 a4); subst hv4; clear o4 g4 a4)
          go_meet
          rw [hy]
          have hln : (zs ++ [e1.s.ca.buf]).length = zl + 1 := by rw [List.length_append, hzl2]; rfl
          rw [hln]
          exact ⟨_, _, rfl, HX.out⟩
      case rest =>
        obtain ⟨ca1, cc1, rfl, hA⟩ := hcut
        have HA := hid hA
        have hpw := HPW.out _ hA.own.bel
        obtain ⟨-, -, ⟨-, d1, -, -, -, -, -, -, -, -⟩⟩ := hpw.cells HE1.out
        have d2 := (hpw.wlt HE1.out (mem_wb.2 (.inl rfl))).2
        have hzl1 : (zs ++ y1s).length ≤ 81 := by
          rw [List.length_append, HY1.out]
          split
          · simp; omega
          · simp; omega
        have HEND : Hid (∀ (w5 : World) (v5 : Value), Ay w w3 (.slice va zs.length vc) w5 v5 ((zs ++ y1s) ++ y2s) → ∃ lf cn2 zs', He w m L D w.heap.size v5 lf cn2 zs' w5 ∧ cn2 < cn) := fun w5 v5 h5 => by
          refine HFIN.out w5 v5 ?_ h5.kp (fun e5 => ?_)
          · rw [HHX.out, ← List.append_assoc]
            exact h5.own
          · rcases h5.vn _ e5 with h6 | h6
            · exact HNE.out h6
            · have := HL3.out
              omega
        clear hA hpw a1 b1 HFIN HAY0
        cases hbf : decide (0 < e1.s.no.buf)
        · have hy : y2s = [] := by rw [HY2.out, if_neg (of_decide_eq_false hbf)]
          have hbf' : decide (e1.s.no.buf > 0) = false := hbf
          obtain ⟨lf2, cn2, zs2, hH2, hc2⟩ := HEND.out wc _ (by rw [hy, List.append_nil]; exact HA.out)
          have HH2 := hid hH2
          have HC2 := hid hc2
          clear hH2 hc2
          go_wp2
          go_roundw
          case rel => exact ⟨_, _, _, HH2.out⟩
          case measure =>
            rw [HH2.out.rg.left_eq]
            exact HLT.out _ HC2.out
        · have hy : y2s = [e1.s.no.buf] := by rw [HY2.out, if_pos (of_decide_eq_true hbf)]
          have hbf' : decide (e1.s.no.buf > 0) = true := hbf
          have HOW := hid (ownsRow_below HA.out.own.own (bel_new wc (.cells #[.int .i64 e1.s.no.buf] 3)))
          have HSL := hid (srcLit wc e1.s.no.buf)
          have hws : w.heap.size ≤ (wc.alloc (.cells #[.int .i64 e1.s.no.buf] 3)).heap.size := by rw [size_new]; have := HA.out.own.bel.size; omega
          have HAP : Hid (∀ v4 w4, w4.ownsRow w.heap.size 3 1 v4 ((zs ++ y1s).length + 1) (ic (zs ++ y1s) ++ ic [e1.s.no.buf]) → (wc.alloc (.cells #[.int .i64 e1.s.no.buf] 3)).grownBy w4 (Value.slice ca1 (zs ++ y1s).length cc1).ownBlock → (v4.ownBlock = (Value.slice ca1 (zs ++ y1s).length cc1).ownBlock ∨ v4.ownBlock = some (wc.alloc (.cells #[.int .i64 e1.s.no.buf] 3)).heap.size) → ∃ lf cn2 zs', He w m L D w.heap.size v4 lf cn2 zs' w4 ∧ cn2 < cn) := fun v4 w4 o4 g4 a4 => HEND.out w4 v4 (by rw [hy]; exact HA.out.app o4 g4 a4)
          generalize (zs ++ y1s).length = zl at *
          go_wp2_with (at_builtin; refine wpList_append_own_at _ rfl (.tmp 42) (.tmp 48) 22 22 rfl w.heap.size 3 i0 (.int .i64 0) 1 8 Tryd.underlying22 hi hz0 hz1 hz2 rfl _ _ _ rfl HOW.out _ _ _ rfl HSL.out (by simp only [maxLen]; omega) (fitsM (by omega) (by decide)) hws ?_; intro v4 w4 o4 g4 a4; obtain ⟨lf2, cn2, zs2, hH2, hc2⟩ := HAP.out v4 w4 o4 g4 a4; have HH2 := hid hH2; have HC2 := hid hc2; clear o4 g4 a4 hH2 hc2)
          go_roundw
          case rel => exact ⟨_, _, _, HH2.out⟩
          case measure =>
            rw [HH2.out.rg.left_eq]
            exact HLT.out _ HC2.out

/-- slices.Sort's two contracts, at the fence that asks nothing. -/
theorem sortsA (m : Nat) : AnyZI.SortsIn Tryd.prog sortedA_ren Fence.wide m :=
  ⟨fun blk off cap ss W hH hblk hsz => callsIn_wide.2 (AnyM.slices_Sort_int sortA blk off cap ss W hH hblk hsz),
   fun p cap W => callsIn_wide.2 (AnyM.slices_Sort_int_none sortA p cap W)⟩
theorem ris_merge {l : List Int} (h : l.Nodup) : Ris (l.mergeSort leI) := by
  have h1 : (l.mergeSort leI).Pairwise (fun a b => leI a b = true) := List.pairwise_mergeSort (fun a b c h1 h2 => by simp [leI] at h1 h2 ⊢; omega) (fun a b => by simp [leI]; omega) _
  have h2 : (l.mergeSort leI).Nodup := (List.mergeSort_perm l leI).nodup_iff.2 h
  refine (List.pairwise_and_iff.2 ⟨h1, h2⟩).imp fun {a b} hab => ?_
  have := hab.1
  simp [leI] at this
  have := hab.2
  omega

set_option maxRecDepth 100000 in
set_option maxHeartbeats 1000000 in
theorem fall_any (h : Pf base w p m L) (hn : L.length ≤ 40) :
    Calls Tryd.prog 25 #[.pointer (some ⟨p, 0, none⟩)] w fun e' w' => ∃ v ys, e' = .returned v ∧ OwZ w w' v ys ∧ Ris ys ∧ ∀ x, x ∈ ys ↔ x ∈ keys L := by
  obtain ⟨D0, hown, hR⟩ := h.own
  have hnd : (keys (pmp L)).Nodup := by rw [pmp_keys]; exact h.nd
  have c0 := h.c0
  have l0 := h.lt.1
  have hsz : Maps.size D0 ≤ 1000000 := by rw [psize hown Tryd.underlying3 hR hnd, pmp_length]; omega
  have HK : Hid (∀ ss : List Int, ss.Perm (intKeys D0) → ss.mergeSort leI = (keys L).mergeSort leI) := fun ss hp => by
    rw [psorted hown Tryd.underlying3 hR hnd hp, pmp_keys]
  have HND := hid h.nd
  refine (callsIn_wide (n := 6)).1 ?_
  have hbl := hown.lt
  have hseq : SeqGives Fence.wide 2 Tryd.prog 70 #[.pointer (some ⟨w.heap.size, 0, none⟩)] encZ (fun ss => ss.Perm (intKeys D0)) (Maps.size D0) (w.alloc (.cells #[.map (some m)] 52)) :=
    AnyZI.keys_gives (ρ := keysA_ren) { keysA with } Fence.wide _ trivial rfl (by omega) w.heap.size m _ D0 _ (by simp) (by simp) (by
      obtain ⟨es, clock, hb, Ft, hs, hD⟩ := hown
      exact ⟨es, clock, (Below.heap_alloc _ _ m hbl).trans hb, Ft, hs, hD⟩)
  have cK : ∀ mb W, CallsIn Fence.wide 5 Tryd.prog 54 #[.map mb] W fun e w' => e = .returned (.func (.func 70) #[] #[.pointer (some ⟨W.heap.size, 0, none⟩)]) ∧ w' = W.alloc (.cells #[.map mb] 52) := fun mb W => AnyZI.keys_in keysA Fence.wide 5 trivial rfl mb W
  have cS := AnyZI.sorted_in sortedA Fence.wide 5 trivial trivial trivial trivial rfl (by omega) (sortsA _) (enters_of Tryd.func43 (by kernel_rfl) rfl) 70 #[.pointer (some ⟨w.heap.size, 0, none⟩)] trivial (enters_of Tryd.func70 (by kernel_rfl) rfl) _ _ (Nat.le_trans hsz (by decide)) (by omega) _ hseq
  change CallsIn _ _ Tryd.prog 53 _ _ _ at cS
  have hfK : Fence.wide.fn 54 := trivial
  have hfS : Fence.wide.fn 53 := trivial
  clear hown hR hseq h
  refine callsIn_of_wp Tryd.func25 rfl trivial ?_ rfl
  simp only [Tryd.ntmps25, List.size_toArray, List.length_cons, List.length_nil, Nat.reduceAdd, Nat.reduceSub, Array.replicate_succ, Array.replicate_zero, List.push_toArray, List.append_toArray, List.nil_append, List.cons_append]
  gi_wp2_with (first
    | (gi_at_call 54; refine (cK _ _).mono ?_; rintro e w' ⟨rfl, rfl⟩)
    | (gi_at_call 53; refine cS.mono ?_; rintro e w' ⟨v, ss, rfl, hS, hrow, hnil, hb⟩))
  go_ret
  have hk := HK.out ss hS
  have hlen : ss.length = ((keys L).mergeSort leI).length := by rw [← hk, List.length_mergeSort]
  rw [hlen, hk] at hrow
  refine ⟨v, (keys L).mergeSort leI, rfl, ⟨ownsRow_base_a hrow (by simp), ((Below.refl _ w).alloc (Nat.le_refl _) _).trans (hb.mono (by simp))⟩, ris_merge HND.out, fun x => List.mem_mergeSort⟩
end Go.Proofs.YtdgknofpkafppaaDoor

/- Forests: what a walk tells. No program. -/
namespace Go.Proofs.YtdgknofpkafppaaDoor
open Go Go.RowKit

/-- What one of an order gives. -/
def wk1 (F : Fo) (n : Nat) (id x y : Int) (pl : List (List Int)) (k : Int) : List (List Int) := if k = 0 then [[id, x, y]] else wlk F n k (x + (plx k pl).1) (y + (plx k pl).2)
theorem wlk_some {F : Fo} {n : Nat} {id x y : Int} {s : Sf} (hs : gt F id = some s) (hb : s.no.buf ≠ 0) : wlk F (n + 1) id x y = (un1 s.no.od).flatMap (wk1 F n id x y s.no.pl) := by
  rw [wlk, hs]
  show (if s.no.buf = 0 then [] else _) = _
  rw [if_neg hb]
  rfl
theorem wlk_none {F : Fo} {n : Nat} {id x y : Int} (hs : gt F id = none) : wlk F (n + 1) id x y = [] := by rw [wlk, hs]
theorem wlk_zero {F : Fo} {n : Nat} {id x y : Int} {s : Sf} (hs : gt F id = some s) (hb : s.no.buf = 0) : wlk F (n + 1) id x y = [] := by
  rw [wlk, hs]
  show (if s.no.buf = 0 then [] else _) = _
  rw [if_pos hb]
theorem flat_take {α β : Type} {l : List α} {j : Nat} {x : α} (h : l[j]? = some x) (f : α → List β) : (l.take (j + 1)).flatMap f = (l.take j).flatMap f ++ f x := by
  rw [List.take_add_one, h, List.flatMap_append]
  congr 1
  show f x ++ [] = f x
  rw [List.append_nil]
theorem flat_take_le {α β : Type} (l : List α) (j : Nat) (f : α → List β) : ((l.take j).flatMap f).length ≤ (l.flatMap f).length := by
  have : l.flatMap f = (l.take j).flatMap f ++ (l.drop j).flatMap f := by rw [← List.flatMap_append, List.take_append_drop]
  rw [this, List.length_append]
  omega
theorem fndV_plx {k : Int} {l : List (List Int)} {z0 z1 z2 : Int} {b : Bool} (h : FndV k l (.agg #[.int .i64 z0, .int .i64 z1, .int .i64 z2]) b) : plx k l = (z1, z2) := by
  unfold FndV at h
  unfold plx
  cases hf : fnd k l with
  | none =>
    rw [hf] at h
    have := h.1
    simp at this
    rw [this.2.1, this.2.2]
  | some y =>
    rw [hf] at h
    have h1 := h.1
    match y, h1 with
    | [a, b, c], h1 =>
      simp at h1
      rw [h1.2.1, h1.2.2]
    | [], h1 => simp at h1
    | [_], h1 => simp at h1
    | [_, _], h1 => simp at h1
    | _ :: _ :: _ :: _ :: _, h1 => simp at h1
theorem plx_edge {k : Int} {l : List (List Int)} (h : ∀ y ∈ l, Edg y) : -16777216 ≤ (plx k l).1 ∧ (plx k l).1 ≤ 16777216 ∧ -16777216 ≤ (plx k l).2 ∧ (plx k l).2 ≤ 16777216 := by
  have hm : ∀ {l : List (List Int)} {y : List Int}, fnd k l = some y → y ∈ l := fun {l} => by
    induction l with
    | nil => intro y h; cases h
    | cons x l ih =>
      intro y h
      rw [fnd] at h
      split at h
      · cases h; simp
      · exact List.mem_cons_of_mem _ (ih h)
  unfold plx
  cases hf : fnd k l with
  | none => exact ⟨by decide, by decide, by decide, by decide⟩
  | some y =>
    obtain ⟨a, b, c, rfl, h1, h2, h3, h4⟩ := h y (hm hf)
    exact ⟨h1, h2, h3, h4⟩

theorem wlk_size {F : Fo} : ∀ (n : Nat) (id x y : Int), ∀ z ∈ wlk F n id x y, z.length = 3
  | 0, _, _, _, z, hz => by cases hz
  | n + 1, id, x, y, z, hz => by
    rw [wlk] at hz
    split at hz
    · cases hz
    · split at hz
      · cases hz
      · obtain ⟨k, _, hk⟩ := List.mem_flatMap.1 hz
        split at hk
        · simp at hk
          rw [hk]
          rfl
        · exact wlk_size n _ _ _ z hk
theorem wk1_size {F : Fo} {n : Nat} {id x y : Int} {pl : List (List Int)} {k : Int} {z : List Int} (h : z ∈ wk1 F n id x y pl k) : z.length = 3 := by
  unfold wk1 at h
  split at h
  · simp at h
    rw [h]
    rfl
  · exact wlk_size _ _ _ _ z h
end Go.Proofs.YtdgknofpkafppaaDoor

/- The program's forest: Walk. -/
namespace Go.Proofs.YtdgknofpkafppaaDoor
open Go Go.RowKit

variable {base B : Nat} {w u w' : World} {p m : Nat} {L L' : Po} {F : Fo} {cf ca cb : Nat} {vl : Value} {es : List Addr}
/-- The closure as a value. -/
def fvW (cf ca cb : Nat) : Value := .func (.func 41) #[] #[.pointer (some ⟨cf, 0, none⟩), .pointer (some ⟨ca, 0, none⟩), .pointer (some ⟨cb, 0, none⟩)]
abbrev Kaw (base B : Nat) (w : World) (p m : Nat) (L : Po) (cf ca cb : Nat) (vl : Value) (S : List (List Int)) : Prop := Ka base B w p m L cf ca cb 72 (fvW cf ca cb) 33 46 3 vl S.length (mcs S)
def KwR (base B : Nat) (p m : Nat) (cf ca cb : Nat) (u : World) (L : Po) (vl : Value) (S : List (List Int)) (e' : Ending) (w' : World) : Prop := e' = .returned undef ∧ ∃ vl', Kaw base B w' p m L cf ca cb vl' S ∧ Kr m ca u L vl w' L vl' ∧ RowKit.Below B u w'

set_option maxRecDepth 100000 in
set_option maxHeartbeats 4000000 in
theorem fwalk1_any {mm : Nat} (hB : 5 ≤ base) (hI : Inv (pab L)) (hN : Nof (pab L)) (hZ : Szf mm (pab L)) (hNk : Nok L) : ∀ (n : Nat) (id x y : Int) (u : World) (vl : Value) (S : List (List Int)), Kaw base B u p m L cf ca cb vl S → Fe u es → Bt id → 40 ≤ n + dpt (pab L) id → n ≤ 41 → S.length + 100 * n ≤ 100000 → -1099511627776 * (42 - n : Int) ≤ x → x ≤ 1099511627776 * (42 - n : Int) → -1099511627776 * (42 - n : Int) ≤ y → y ≤ 1099511627776 * (42 - n : Int) →
    Calls Tryd.prog 41 (#[.int .i64 id, .int .i64 x, .int .i64 y] ++ #[.pointer (some ⟨cf, 0, none⟩), .pointer (some ⟨ca, 0, none⟩), .pointer (some ⟨cb, 0, none⟩)]) u (KwR base B p m cf ca cb u L vl (S ++ wlk (pab L) (n + 1) id x y)) := by
  intro n
  induction n using Nat.strongRecOn with
  | ind n ih =>
    intro id x y u vl S hK hE hbt hd hn hacc hx1 hx2 hy1 hy2
    have eg := enters_of Tryd.func41 (by kernel_rfl) rfl
    obtain ⟨i0, hi, hn0, hn1, hn2⟩ := infoMP infoM3
    have CF := hid (ffind_any hE hK.pf id hbt)
    have f1 : u.cell? ⟨cf, 0, none⟩ = some (.pointer (some ⟨p, 0, none⟩)) := hK.kf.cell 0
    have f2 := hK.kf.lt
    cases hs : gt L id with
    | none =>
      have HS : Hid (pto L id = none ∧ hasE (pab L) id = 5) := ⟨by rw [pto, hs]; rfl, by rw [hasE, gt_pab, hs]; rfl⟩
      have HX : Hid (∀ q, KwR base B p m cf ca cb u L vl (S ++ wlk (pab L) (n + 1) id x y) (.returned undef) (u.drewN q)) := fun q => by
        rw [wlk_none (by rw [gt_pab, hs]; rfl), List.append_nil]
        exact ⟨rfl, vl, hK.on (below_drewN (Below.refl _ _) q), Kr.refl (below_drewN (Below.refl _ _) q), below_drewN (Below.refl _ _) q⟩
      rw [HS.out.1, HS.out.2] at CF
      clear hs hK ih hd hn HS hI hN hZ hNk hE
      go_enter Tryd.func41, Tryd.ntmps41
      go_wp2_with fail
      refine CF.out.mono ?_
      rintro e' w1 ⟨rfl, q1, rfl⟩
      have HY := hid (HX.out q1)
      rw [ptv_none, erv_succ]
      go_wp2
      refine bodyPost_ret (results_none rfl _ _ _) rfl ?_
      exact HY.out
    | some e =>
      have hsa : gt (pab L) id = some e.s.f := by rw [gt_pab, hs]; rfl
      have HS : Hid (pto L id = some e.g ∧ hasE (pab L) id = 0) := ⟨by rw [pto, hs]; rfl, by rw [hasE, hsa]⟩
      rw [HS.out.1, HS.out.2] at CF
      have b21 : u.cell? ⟨e.g, 21, none⟩ = some (.int .i64 e.s.no.buf) := hK.pf.cell hs
      have hlt := (hK.pf.wlt hs (mem_wb.2 (.inl rfl))).2
      by_cases hb0 : e.s.no.buf = 0
      · have HX : Hid (∀ q, KwR base B p m cf ca cb u L vl (S ++ wlk (pab L) (n + 1) id x y) (.returned undef) (u.drewN q)) := fun q => by
          rw [wlk_zero hsa hb0, List.append_nil]
          exact ⟨rfl, vl, hK.on (below_drewN (Below.refl _ _) q), Kr.refl (below_drewN (Below.refl _ _) q), below_drewN (Below.refl _ _) q⟩
        rw [hb0] at b21
        clear hs hK ih hd hn HS hI hN hZ hNk hE hsa
        go_enter Tryd.func41, Tryd.ntmps41
        go_wp2_with fail
        refine CF.out.mono ?_
        rintro e' w1 ⟨rfl, q1, rfl⟩
        have HY := hid (HX.out q1)
        rw [ptv_some, erv0]
        go_wp2
        refine bodyPost_ret (results_none rfl _ _ _) rfl ?_
        exact HY.out
      · have e0 : (e.s.no.buf == 0) = false := beq_false_of_ne hb0
        obtain ⟨od, hod⟩ : ∃ od, od = un1 e.s.no.od.l := ⟨_, rfl⟩
        obtain ⟨N, hNN⟩ : ∃ N, N = e.s.no.od.n := ⟨_, rfl⟩
        obtain ⟨oa, hoa⟩ : ∃ oa, oa = e.s.no.od.a := ⟨_, rfl⟩
        obtain ⟨oc, hoc⟩ : ∃ oc, oc = e.s.no.od.c := ⟨_, rfl⟩
        have hw : wlk (pab L) (n + 1) id x y = od.flatMap (wk1 (pab L) n id x y e.s.no.pl.l) := by rw [wlk_some hsa hb0, hod]; rfl
        have hwl : (od.flatMap (wk1 (pab L) n id x y e.s.no.pl.l)).length ≤ 40 := by
          rw [← hw]
          exact Nat.le_trans (wlk_length hI hN _ _ _ _) (Nat.le_trans (dsc_le _ _) hI.len)
        have HRZ : Hid (∀ u1 vl1, Kr m ca u L vl u1 L vl1 → Rz u1 oa N oc od) := fun u1 vl1 hk => by
          rw [hod, hNN, hoa, hoc]
          exact rz_of_rdm (hk.rd hK hs (by simp [ros]) (hK.pf.rows id e hs).ok.no.od)
        have hN63 := (HRZ.out _ _ (Kr.refl (Below.refl _ _))).small.1
        have HLN := hid (HRZ.out _ _ (Kr.refl (Below.refl _ _))).len
        have hed := (hZ id e.s.f hsa).ed.2.2
        have HBT : Hid (∀ j k, od[j]? = some k → Bt k) := fun j k hj => by
          by_cases hk0 : k = 0
          · rw [hk0]
            exact bt0
          · obtain ⟨c0, hc0, _⟩ := hI.kid id e.s.f hsa k (.inr (.inr (by show k ∈ un1 e.s.no.od.l; rw [← hod]; exact List.mem_of_getElem? hj))) hk0
            rw [gt_pab] at hc0
            obtain ⟨e0, he0, _⟩ := Option.map_eq_some_iff.1 hc0
            exact (hNk.key k e0 he0).1
        have HREC : Hid (∀ (k : Int) (j : Nat), od[j]? = some k → k ≠ 0 → ∀ (u' : World) (vl' : Value) (S' : List (List Int)) (z1 z2 : Int), Kaw base B u' p m L cf ca cb vl' S' → Kr m ca u L vl u' L vl' → S'.length ≤ S.length + 40 → plx k e.s.no.pl.l = (z1, z2) → Calls Tryd.prog 41 (#[.int .i64 k, .int .i64 (x + z1), .int .i64 (y + z2)] ++ #[.pointer (some ⟨cf, 0, none⟩), .pointer (some ⟨ca, 0, none⟩), .pointer (some ⟨cb, 0, none⟩)]) u' (KwR base B p m cf ca cb u' L vl' (S' ++ wk1 (pab L) n id x y e.s.no.pl.l k))) := fun k j hj hk0 u' vl' S' z1 z2 hK' hKr hl' hp => by
          obtain ⟨c, hc, hpar⟩ := hI.kid id e.s.f hsa k (.inr (.inr (by show k ∈ un1 e.s.no.od.l; rw [← hod]; exact List.mem_of_getElem? hj))) hk0
          have hdk := dpt_lt hI.acy hc
          rw [hpar] at hdk
          have hdl := dpt_le (pab L) k
          have hFl := hI.len
          obtain ⟨n', rfl⟩ : ∃ n', n = n' + 1 := ⟨n - 1, by omega⟩
          have hE' := plx_edge (k := k) hed
          rw [show e.s.f.no.pl = e.s.no.pl.l from rfl, hp] at hE'
          have := ih n' (by omega) k (x + z1) (y + z2) u' vl' S' hK' (hE.kb (hKr.bel hK) hB) (HBT.out j k hj) (by omega) (by omega) (by omega) (by omega) (by omega) (by omega) (by omega)
          rw [wk1, if_neg hk0, hp]
          exact this
        have HNX : Hid (∀ (k : Int), -1125899906842624 ≤ x + (plx k e.s.no.pl.l).1 ∧ x + (plx k e.s.no.pl.l).1 ≤ 1125899906842624 ∧ -1125899906842624 ≤ y + (plx k e.s.no.pl.l).2 ∧ y + (plx k e.s.no.pl.l).2 ≤ 1125899906842624) := fun k => by
          have hE' := plx_edge (k := k) hed
          rw [show e.s.f.no.pl = e.s.no.pl.l from rfl] at hE'
          omega
        obtain ⟨G, hG⟩ : ∃ G, G = wk1 (pab L) n id x y e.s.no.pl.l := ⟨_, rfl⟩
        have HG0 : Hid (G 0 = [[id, x, y]]) := by rw [hG]; exact if_pos rfl
        rw [← hG] at hw hwl HREC
        have HW := hid hw
        have HWL := hid hwl
        have HSZ : Hid (∀ l : List Int, ∀ y' ∈ l.flatMap G, y'.length = 3) := fun l y' hy' => by
          rw [hG] at hy'
          obtain ⟨k, _, hk⟩ := List.mem_flatMap.1 hy'
          exact wk1_size hk
        have HCEL : Hid (∀ u1 vl1, Kr m ca u L vl u1 L vl1 → Pf base u1 p m L → u1.cell? ⟨e.g, 29, none⟩ = some (.slice e.s.no.pl.a e.s.no.pl.n e.s.no.pl.c) ∧ e.g < u1.heap.size ∧ RdM 3 u1 e.s.no.pl.a e.s.no.pl.n e.s.no.pl.c e.s.no.pl.l) := fun u1 vl1 hk hP => ⟨hP.cell hs, (hP.wlt hs (mem_wb.2 (.inl rfl))).2, (hP.rows id e hs).ok.no.pl⟩
        have HK := hid hK
        have c28 : u.cell? ⟨e.g, 28, none⟩ = some (.slice oa N oc) := by rw [hNN, hoa, hoc]; exact hK.pf.cell hs
        clear hK hE hI hN hZ hNk hs hsa hod hNN hoa hoc ih hd hn hb0 hed hw hwl hG HS hbt
        go_enter Tryd.func41, Tryd.ntmps41
        go_wp2_with fail
        refine CF.out.mono ?_
        rintro e' w1 ⟨rfl, q1, hw1⟩
        have hb1 : Below u.heap.size u w1 := by rw [hw1]; exact below_drewN (Below.refl _ _) q1
        have d21 : w1.cell? ⟨e.g, 21, none⟩ = some (.int .i64 e.s.no.buf) := by rw [hw1]; exact b21
        have d28 : w1.cell? ⟨e.g, 28, none⟩ = some (.slice oa N oc) := by rw [hw1]; exact c28
        have dlt : e.g < w1.heap.size := Nat.lt_of_lt_of_le hlt hb1.size
        have HKR1 : Hid (Kr m ca u L vl w1 L vl ∧ RowKit.Below B u w1) := ⟨Kr.refl hb1, by rw [hw1]; exact below_drewN (Below.refl _ _) q1⟩
        have HK1 := hid (HK.out.on hb1)
        clear hw1 hb1 CF b21 c28 f1 f2 HK hlt
        rw [ptv_some, erv0]
        go_wp2
        go_loopw [37] (fun i wr => ∃ j : Nat, i = .int .i64 j ∧ j ≤ N ∧ ∃ vv, Kaw base B wr p m L cf ca cb vv (S ++ (od.take j).flatMap G) ∧ Kr m ca u L vl wr L vv ∧ RowKit.Below B u wr) (fun i _ => N - (numOf i).toNat)
        case atStart => exact ⟨0, rfl, by omega, vl, by simpa using HK1.out, HKR1.out⟩
        case round =>
          obtain ⟨j, rfl, hj, vv, hK2, hR2, hBl2⟩ := hrel
          have HBL := hid hBl2
          clear hBl2
          have hll : (S ++ (od.take j).flatMap G).length ≤ S.length + 40 := by
            rw [List.length_append]
            have := flat_take_le od j G
            have := HWL.out
            omega
          clear d21 d28 dlt HKR1 HK1
          by_cases hgo : j < N
          · have e1 : decide ((j : Int) < N) = true := decide_eq_true (by omega)
            have e2 : (j : Int) < N := by omega
            obtain ⟨bl, off, k, ha, _, hk, ck⟩ := (HRZ.out _ _ hR2).at_ (j := j) hgo
            have HFT := hid (flat_take hk G)
            have HKJ := hid hk
            subst ha
            have HK2 := hid hK2
            have HR2 := hid hR2
            clear hk
            by_cases hk0 : k = 0
            · subst hk0
              rw [HG0.out] at HFT
              have h9 := bel_new wr (.cells #[.int .i64 id, .int .i64 x, .int .i64 y] 46)
              have hK9 := hK2.on h9
              have HKR := hid (hR2.trans (Kr.refl (m := m) (ca := ca) (L := L) (vl := vv) h9))
              have HB9 : Hid (RowKit.Below B u (wr.alloc (.cells #[.int .i64 id, .int .i64 x, .int .i64 y] 46))) := HBL.out.trans ((h9.mono (by have h1 := (hK2.ext ca (by simp)).2.2.2.2; have h2 := hK2.ka.lt; omega)))
              have d1 : wr.cell? ⟨ca, 0, none⟩ = some vv := hK2.ka.cell 0
              have d2 := hK2.ka.lt
              obtain ⟨va, vc, hvv⟩ := own_val hK2.row
              have HOW := hid hK9.row
              have HSL := hid (src3 wr id x y)
              have hws : B ≤ (wr.alloc (.cells #[.int .i64 id, .int .i64 x, .int .i64 y] 46)).heap.size := by
                have h1 := (hK9.ext ca (by simp)).2.2.2.2
                have h2 := hK9.ka.lt
                omega
              have HAPP : Hid (∀ v3 w3, w3.ownsRow B 46 3 v3 ((S ++ (od.take j).flatMap G).length + 1) (mcs (S ++ (od.take j).flatMap G) ++ mcs [[id, x, y]]) → (wr.alloc (.cells #[.int .i64 id, .int .i64 x, .int .i64 y] 46)).grownBy w3 vv.ownBlock → (v3.ownBlock = vv.ownBlock ∨ v3.ownBlock = some (wr.alloc (.cells #[.int .i64 id, .int .i64 x, .int .i64 y] 46)).heap.size) → ∃ a c, v3 = .slice a ((S ++ (od.take j).flatMap G).length + 1) c ∧ w3.cell? ⟨ca, 0, none⟩ = some vv ∧ (∀ j, w3.frozen? ⟨ca, j, none⟩ = false) ∧ ca < w3.heap.size ∧ ∃ W4, W4 = w3.setCell ⟨ca, 0, none⟩ (.slice a ((S ++ (od.take j).flatMap G).length + 1) c) ∧ Kaw base B W4 p m L cf ca cb v3 (S ++ (od.take (j + 1)).flatMap G) ∧ Kr m ca u L vl W4 L v3 ∧ RowKit.Below B u W4) := fun v3 w3 o3 g3 a3 => by
                obtain ⟨a, c, hv3⟩ := own_val o3
                obtain ⟨k1, k2, k3, k4, k5, k6⟩ := hK9.app o3 g3 a3
                refine ⟨a, c, hv3, k1, k2, k3, _, rfl, ?_, ?_, ?_⟩
                · rw [← hv3, HFT.out, ← List.append_assoc]
                  show Ka _ _ _ _ _ _ _ _ _ _ _ _ _ _ _ (_ ++ [[id, x, y]]).length (mcs (_ ++ [[id, x, y]]))
                  rw [mcs_append, List.length_append (bs := [[id, x, y]])]
                  exact k4
                · rw [← hv3]
                  exact HKR.out.trans k5
                · rw [← hv3]
                  exact HB9.out.trans k6
              subst hvv
              clear hK9 h9 hK2 hR2 HK2 HR2 HFT
              generalize (S ++ (od.take j).flatMap G).length = m9 at *
              go_wp2_with (at_builtin; refine wpList_append_own_at _ rfl (.tmp 43) (.tmp 48) 33 33 rfl B 46 i0 (.agg #[.int .i64 0, .int .i64 0, .int .i64 0]) 3 24 Tryd.underlying33 hi hn0 hn1 hn2 rfl _ _ _ rfl HOW.out _ _ _ rfl HSL.out (by simp only [maxLen]; omega) (fitsM (by omega) (by decide)) hws ?_; intro v3 w3 o3 g3 a3; obtain ⟨av, cv, rfl, d3, d4, d5, W4, hW4, hK4, hR4⟩ := HAPP.out _ _ o3 g3 a3; have HW4 := hid hW4; have HK4 := hid hK4; have HR4 := hid hR4; clear o3 g3 a3 hW4 hK4 hR4)
              rw [← HW4.out]
              go_roundw
              case rel => exact ⟨j + 1, by go_num, by omega, _, HK4.out, HR4.out⟩
              case measure => simp [numOf]; omega
            · have e3 : (k == 0) = false := beq_false_of_ne hk0
              obtain ⟨c29, l29, rpl⟩ := HCEL.out _ _ hR2 hK2.pf
              have CFD := hid (find_any _ _ _ _ k wr rpl)
              have hnx := HNX.out k
              have HRC := hid (HREC.out k j HKJ.out hk0)
              clear hk0 rpl hK2 hR2
              go_wp2_with fail
              refine CFD.out.mono ?_
              rintro e' w5 ⟨z0, z1, z2, b, rfl, hf, hb5⟩
              have hp := fndV_plx hf
              rw [hp] at hnx
              dsimp only at hnx
              have h9 := bel_new w5 (.cells #[.int .i64 z0, .int .i64 z1, .int .i64 z2] 46)
              have hb9 := Below.on hb5 h9
              have HRC2 := hid (HRC.out _ _ _ z1 z2 (HK2.out.on hb9) (HR2.out.trans (Kr.refl hb9)) hll hp)
              have HKR9 := hid (HR2.out.trans (Kr.refl (m := m) (ca := ca) (L := L) (vl := vv) hb9))
              have HBL9 : Hid (RowKit.Below B u (w5.alloc (.cells #[.int .i64 z0, .int .i64 z1, .int .i64 z2] 46))) := HBL.out.trans (hb9.mono (by have h1 := (HK2.out.ext ca (by simp)).2.2.2.2; have h2 := HK2.out.ka.lt; omega))
              have b1 : (w5.alloc (.cells #[.int .i64 z0, .int .i64 z1, .int .i64 z2] 46)).cell? ⟨cb, 0, none⟩ = some (fvW cf ca cb) := (HK2.out.on hb9).kb.cell 0
              have b2 := (HK2.out.on hb9).kb.lt
              rw [fvW] at b1
              have b3 : w5.cell? ⟨cb, 0, none⟩ = some (.func (.func 41) #[] #[.pointer (some ⟨cf, 0, none⟩), .pointer (some ⟨ca, 0, none⟩), .pointer (some ⟨cb, 0, none⟩)]) := (HK2.out.on hb5).kb.cell 0
              have b4 := (HK2.out.on hb5).kb.lt
              have HFT2 : Hid (S ++ (od.take (j + 1)).flatMap G = (S ++ (od.take j).flatMap G) ++ G k) := by rw [Hid, HFT.out, List.append_assoc]
              clear hf hb5 hp h9 hb9 CFD HRC HFT HK2 HR2 c29 l29
              go_wp2_with fail
              refine HRC2.out.mono ?_
              rintro e' w6 ⟨rfl, v6, hK6, hR6, hBl6⟩
              rw [← HFT2.out] at hK6
              have HK6 := hid hK6
              have HR6 := hid (And.intro (HKR9.out.trans hR6) (HBL9.out.trans hBl6))
              clear hK6 hR6 hBl6 HBL9 HRC2 HKR9 b1 b2 b3 b4
              go_wp2
              go_roundw
              case rel => exact ⟨j + 1, by go_num, by omega, _, HK6.out, HR6.out⟩
              case measure => simp [numOf]; omega
          · have e1 : decide ((j : Int) < N) = false := decide_eq_false (by omega)
            obtain rfl : j = N := by omega
            rw [List.take_of_length_le (by rw [HLN.out]; exact Nat.le_refl _), ← HW.out] at hK2
            have HX : Hid (KwR base B p m cf ca cb u L vl (S ++ wlk (pab L) (n + 1) id x y) (.returned undef) wr) := ⟨rfl, vv, hK2, hR2, HBL.out⟩
            clear hK2 hR2
            go_wp2
            go_end0
            exact HX.out
end Go.Proofs.YtdgknofpkafppaaDoor

/- The program's forest: Walk. -/
namespace Go.Proofs.YtdgknofpkafppaaDoor
open Go Go.RowKit

variable {base B : Nat} {w u w' : World} {p m : Nat} {L L' : Po} {F : Fo} {id : Int} {es : List Addr} {e : Ps}
set_option maxRecDepth 100000 in
set_option maxHeartbeats 1000000 in
theorem fwalk_any {mm : Nat} (hE : Fe w es) (hB : 5 ≤ base) (h : Pf base w p m L) (hF : Fok mm (pab L)) (id : Int) (hi : Bt id) :
    Calls Tryd.prog 14 #[.pointer (some ⟨p, 0, none⟩), .int .i64 id] w fun e' w' => ∃ v, e' = .returned v ∧ w'.ownsRow w.heap.size 46 3 v (wlk (pab L) 41 id 0 0).length (mcs (wlk (pab L) 41 id 0 0)) ∧ RowKit.Below w.heap.size w w' := by
  have hlo : base ≤ w.heap.size := by
    have := h.lt.1
    have := h.lop
    omega
  have HW : Hid (∀ u : World, Below w.heap.size w u → Bk u w.heap.size 24 #[.pointer (some ⟨p, 0, none⟩)] → Bk u (w.heap.size + 1) 33 #[.slice none 0 0] → Bk u (w.heap.size + 1 + 1) 72 #[.func (.func 41) #[] #[.pointer (some ⟨w.heap.size, 0, none⟩), .pointer (some ⟨w.heap.size + 1, 0, none⟩), .pointer (some ⟨w.heap.size + 1 + 1, 0, none⟩)]] →
      Calls Tryd.prog 41 (#[.int .i64 id, .int .i64 0, .int .i64 0] ++ #[.pointer (some ⟨w.heap.size, 0, none⟩), .pointer (some ⟨w.heap.size + 1, 0, none⟩), .pointer (some ⟨w.heap.size + 1 + 1, 0, none⟩)]) u fun e' w' => e' = .returned undef ∧ ∃ vl, w'.cell? ⟨w.heap.size + 1, 0, none⟩ = some vl ∧ w.heap.size + 1 < w'.heap.size ∧ w'.ownsRow w.heap.size 46 3 vl (wlk (pab L) 41 id 0 0).length (mcs (wlk (pab L) 41 id 0 0)) ∧ RowKit.Below w.heap.size w w') := fun u hb k1 k2 k3 => by
    have hK : Kaw base w.heap.size u p m L w.heap.size (w.heap.size + 1) (w.heap.size + 1 + 1) (.slice none 0 0) [] := ka_new h hlo hb k1 k2 k3
    refine (fwalk1_any hB hF.inv hF.nof hF.szf hF.nok 40 id 0 0 u (.slice none 0 0) [] hK (hE.on hb) hi (by omega) (by omega) (by simp) (by omega) (by omega) (by omega) (by omega)).mono ?_
    rintro e' w' ⟨h1, vl', hK', -, hBl⟩
    rw [List.nil_append] at hK'
    exact ⟨h1, vl', hK'.ka.cell 0, hK'.ka.lt, hK'.row, hb.trans hBl⟩
  have eg := enters_of Tryd.func41 (by kernel_rfl) rfl
  obtain ⟨W3, hW3⟩ : ∃ W3, W3 = (((w.alloc (.cells #[.pointer (some ⟨p, 0, none⟩)] 24)).alloc (.cells #[.slice none 0 0] 33)).alloc (.cells #[.nilFunc] 72)) := ⟨_, rfl⟩
  have b1 := bel_new w (.cells #[.pointer (some ⟨p, 0, none⟩)] 24)
  have b2 := bel_new (w.alloc (.cells #[.pointer (some ⟨p, 0, none⟩)] 24)) (.cells #[.slice none 0 0] 33)
  have b3 := bel_new ((w.alloc (.cells #[.pointer (some ⟨p, 0, none⟩)] 24)).alloc (.cells #[.slice none 0 0] 33)) (.cells #[.nilFunc] 72)
  have k1 := ((bk_new w #[.pointer (some ⟨p, 0, none⟩)] 24).on b2).on b3
  have k2 := (bk_new (w.alloc (.cells #[.pointer (some ⟨p, 0, none⟩)] 24)) #[.slice none 0 0] 33).on b3
  have k3 := bk_new ((w.alloc (.cells #[.pointer (some ⟨p, 0, none⟩)] 24)).alloc (.cells #[.slice none 0 0] 33)) #[.nilFunc] 72
  have hb3 := Below.on (Below.on b1 b2) b3
  simp only [size_new] at k2 k3
  rw [← hW3] at k1 k2 k3 hb3
  have k4 := k3.set 0 (.func (.func 41) #[] #[.pointer (some ⟨w.heap.size, 0, none⟩), .pointer (some ⟨w.heap.size + 1, 0, none⟩), .pointer (some ⟨w.heap.size + 1 + 1, 0, none⟩)])
  have k5 := k1.other (show w.heap.size ≠ w.heap.size + 1 + 1 by omega) 0 (.func (.func 41) #[] #[.pointer (some ⟨w.heap.size, 0, none⟩), .pointer (some ⟨w.heap.size + 1, 0, none⟩), .pointer (some ⟨w.heap.size + 1 + 1, 0, none⟩)])
  have k6 := k2.other (show w.heap.size + 1 ≠ w.heap.size + 1 + 1 by omega) 0 (.func (.func 41) #[] #[.pointer (some ⟨w.heap.size, 0, none⟩), .pointer (some ⟨w.heap.size + 1, 0, none⟩), .pointer (some ⟨w.heap.size + 1 + 1, 0, none⟩)])
  have HX := hid (HW.out (W3.setCell ⟨w.heap.size + 1 + 1, 0, none⟩ (.func (.func 41) #[] #[.pointer (some ⟨w.heap.size, 0, none⟩), .pointer (some ⟨w.heap.size + 1, 0, none⟩), .pointer (some ⟨w.heap.size + 1 + 1, 0, none⟩)])) (hb3.setCell (p := ⟨w.heap.size + 1 + 1, 0, none⟩) (by show w.heap.size ≤ w.heap.size + 1 + 1; omega) _) k5 k6 k4)
  have d1 : W3.cell? ⟨w.heap.size + 1 + 1, 0, none⟩ = some .nilFunc := k3.cell 0
  have d2 := k3.fz
  have d3 := k3.lt
  have d4 : (W3.setCell ⟨w.heap.size + 1 + 1, 0, none⟩ (.func (.func 41) #[] #[.pointer (some ⟨w.heap.size, 0, none⟩), .pointer (some ⟨w.heap.size + 1, 0, none⟩), .pointer (some ⟨w.heap.size + 1 + 1, 0, none⟩)])).cell? ⟨w.heap.size + 1 + 1, 0, none⟩ = some (.func (.func 41) #[] #[.pointer (some ⟨w.heap.size, 0, none⟩), .pointer (some ⟨w.heap.size + 1, 0, none⟩), .pointer (some ⟨w.heap.size + 1 + 1, 0, none⟩)]) := k4.cell 0
  have HW3 := hid hW3
  clear hE h hF hlo b1 b2 b3 k1 k2 k3 k4 k5 k6 hb3 hW3 HW
  go_enter Tryd.func14, Tryd.ntmps14
  go_upto_region 3 with fail
  rw [← HW3.out]
  go_wp2_with fail
  refine HX.out.mono ?_
  rintro e' w5 ⟨rfl, vl, c5, l5, ho5, hR5⟩
  have HO := hid ho5
  have HR := hid hR5
  clear ho5 hR5 HX d1 d2 d3 d4
  go_wp2
  go_ret
  exact ⟨vl, rfl, HO.out, HR.out⟩

/-- A row of children of one's own, as a slice. -/
theorem own_rd3 {w : World} {B : Nat} {v : Value} {l : List (List Int)} (h : w.ownsRow B 46 3 v l.length (mcs l)) (hs : ∀ y ∈ l, y.length = 3) : ∃ a c, v = .slice a l.length c ∧ RdM 3 w a l.length c l := by
  obtain ⟨s, h1, h2, h3, h4, _⟩ := own_sl h rfl hs
  exact ⟨s.a, s.c, by rw [h1, Sl.v, h2], by rw [h2, h3] at h4; exact h4⟩
/-- A row of numbers of one's own, as a slice. -/
theorem own_rz {w : World} {B : Nat} {v : Value} {l : List Int} (h : w.ownsRow B 3 1 v l.length (ic l)) : ∃ a c, v = .slice a l.length c ∧ Rz w a l.length c l := by
  obtain ⟨s, h1, h2, h3, h4, _⟩ := own_sl (l := sg l) (by rw [ic_mcs]; exact h) (by rw [sg_length]) (sg_size l)
  refine ⟨s.a, s.c, by rw [h1, Sl.v, h2], ?_⟩
  have := rz_of_rdm h4
  rw [h2, h3, un1_sg] at this
  exact this
end Go.Proofs.YtdgknofpkafppaaDoor

/- The program's forest, call by call. Written by forest/mk_pga.py. -/
namespace Go.Proofs.YtdgknofpkafppaaDoor
open Go Go.RowKit

/-- A forest of the law's own, behind p: F, after mm calls. -/
structure Pg (es : List Addr) (w0 w : World) (p : Nat) (mm : Nat) (F : Fo) : Prop where
  ex : ∃ m L, Pf w0.heap.size w p m L ∧ pab L = F
  ok : Fok mm F
  fe : Fe w es
  ng : 5 ≤ w0.heap.size
  bel : RowKit.Below w0.heap.size w0 w
variable {es : List Addr} {w0 w w' : World} {p mm : Nat} {F : Fo}
theorem Pg.on (h : Pg es w0 w p mm F) (hb : Below w.heap.size w w') : Pg es w0 w' p mm F := by
  obtain ⟨m, L, h1, h2⟩ := h.ex
  exact ⟨⟨m, L, h1.on hb, h2⟩, h.ok, h.fe.on hb, h.ng, Below.on h.bel hb⟩
theorem Pg.mono (h : Pg es w0 w p mm F) {n : Nat} (hn : mm ≤ n) : Pg es w0 w p n F := ⟨h.ex, h.ok.mono hn, h.fe, h.ng, h.bel⟩
theorem Pg.as (h : Pg es w0 w p mm F) {F' : Fo} (e : F = F') : Pg es w0 w p mm F' := e ▸ h
theorem Below.tr {B : Nat} {a b c : World} (h : RowKit.Below B a b) (h' : RowKit.Below B b c) : RowKit.Below B a c := h.trans h'
/-- A row of numbers of one's own, as a slice. -/
theorem own_rz0 {w : World} {B : Nat} {v : Value} {l : List Int} (h : w.ownsRow B 3 1 v l.length (ic l)) : ∃ a c, v = .slice a l.length c ∧ Rz w a l.length c l := by
  obtain ⟨s, h1, h2, h3, h4, _⟩ := own_sl (l := sg l) (by rw [ic_mcs]; exact h) (by rw [sg_length]) (sg_size l)
  refine ⟨s.a, s.c, by rw [h1, Sl.v, h2], ?_⟩
  have := rz_of_rdm h4
  rw [h2, h3, un1_sg] at this
  exact this
/-- What a call leaves. -/
theorem Pg.pfr {m : Nat} {L L' : Po} {G : Fo} {n : Nat} (h : Pg es w0 w p mm F) (hP : Pf w0.heap.size w p m L) (hR : PfR w0.heap.size w p m L G w' L') (hok : Fok n G) : Pg es w0 w' p n G := by
  have hb := hR.bel hP
  exact ⟨⟨m, L', hR.pf, hR.ab⟩, hok, h.fe.kb hb h.ng, h.ng, h.bel.trans hb⟩
theorem pg_new (w0 w : World) (hb : Below w0.heap.size w0 w) (hE : Fe w es) (hn : 5 ≤ w0.heap.size) : Calls Tryd.prog 8 #[] w fun e w' => ∃ p, e = .returned (.pointer (some ⟨p, 0, none⟩)) ∧ Pg es w0 w' p 0 [] ∧ Below w.heap.size w w' :=
  (fnew_any w).mono fun _ _ ⟨h1, h2, h3⟩ => ⟨_, h1, ⟨⟨_, _, h3 _ hb.size, rfl⟩, fok_nil, hE.on h2, hn, Below.on hb h2⟩, h2⟩
theorem Pg.add (h : Pg es w0 w p mm F) (_hm : mm ≤ 900) (id : Int) (hi : Bt id) : Calls Tryd.prog 9 #[.pointer (some ⟨p, 0, none⟩), .int .i64 id] w fun e w' => e = .returned (erv es (addE F id)) ∧ Pg es w0 w' p (mm + 1) (addF F id) := by
  obtain ⟨m, L, hP, rfl⟩ := h.ex
  exact (fadd_any h.fe hP id hi (by rw [← pab_length L]; exact h.ok.inv.len)).mono fun _ _ ⟨h1, L', hR⟩ => ⟨h1, h.pfr hP hR (h.ok.add hi)⟩
theorem Pg.drp (h : Pg es w0 w p mm F) (hm : mm ≤ 900) (id : Int) (hi : Bt id) : Calls Tryd.prog 23 #[.pointer (some ⟨p, 0, none⟩), .int .i64 id] w fun e w' => e = .returned (erv es (drpE F id)) ∧ Pg es w0 w' p (mm + 1) (drpF F id) := by
  obtain ⟨m, L, hP, rfl⟩ := h.ex
  exact (fdrop_any h.fe h.ng hP h.ok.nok (h.ok.few hm hP) id hi).mono fun _ _ ⟨h1, L', hR⟩ => ⟨h1, h.pfr hP hR (h.ok.drp id)⟩
theorem Pg.sub (h : Pg es w0 w p mm F) (hm : mm ≤ 900) (id y : Int) (hi : Bt id) (hj : Bt y) : Calls Tryd.prog 10 #[.pointer (some ⟨p, 0, none⟩), .int .i64 id, .int .i64 y] w fun e w' => e = .returned (erv es (subEB F id y)) ∧ Pg es w0 w' p (mm + 1) (subFB F id y) := by
  obtain ⟨m, L, hP, rfl⟩ := h.ex
  have q := fsub_any h.fe h.ng hP h.ok.nok (h.ok.few hm hP) id y hi hj
  rw [h.ok.inv.subE, h.ok.inv.subF] at q
  exact q.mono fun _ _ ⟨h1, L', hR⟩ => ⟨h1, h.pfr hP hR (by rw [← h.ok.inv.subF]; exact h.ok.sub id y)⟩
theorem Pg.att (h : Pg es w0 w p mm F) (_hm : mm ≤ 900) (id b : Int) (hi : Bt id) (hb : Bt b) : Calls Tryd.prog 11 #[.pointer (some ⟨p, 0, none⟩), .int .i64 id, .int .i64 b] w fun e w' => e = .returned (erv es (hasE F id)) ∧ Pg es w0 w' p (mm + 1) (upd F id (attS b)) := by
  obtain ⟨m, L, hP, rfl⟩ := h.ex
  exact (fattach_any h.fe hP id hi b).mono fun _ _ ⟨h1, L', hR⟩ => ⟨h1, h.pfr hP hR (h.ok.att id hb)⟩
theorem Pg.frm (h : Pg es w0 w p mm F) (hm : mm ≤ 900) (id b : Int) (hi : Bt id) : Calls Tryd.prog 46 #[.pointer (some ⟨p, 0, none⟩), .int .i64 id, .int .i64 b] w fun e w' => e = .returned (erv es (hasE F id)) ∧ Pg es w0 w' p (mm + 1) (upd F id (frmS b)) := by
  obtain ⟨m, L, hP, rfl⟩ := h.ex
  exact (fframe_any h.fe hP id hi (fun e he => by have := (h.ok.len hm hP he).1.2.1; omega) b).mono fun _ _ ⟨h1, L', hR⟩ => ⟨h1, h.pfr hP hR (h.ok.frm id b)⟩
theorem Pg.pos (h : Pg es w0 w p mm F) (hm : mm ≤ 900) (id x y : Int) (hi : Bt id) : Calls Tryd.prog 20 #[.pointer (some ⟨p, 0, none⟩), .int .i64 id, .int .i64 x, .int .i64 y] w fun e w' => e = .returned (erv es (unsE F id)) ∧ Pg es w0 w' p (mm + 1) (posF F id x y) := by
  obtain ⟨m, L, hP, rfl⟩ := h.ex
  exact (fpos_any h.fe hP h.ok.nok (h.ok.few hm hP) id x y hi).mono fun _ _ ⟨h1, L', hR⟩ => ⟨h1, h.pfr hP hR (h.ok.posn id x y)⟩
theorem Pg.blw (h : Pg es w0 w p mm F) (hm : mm ≤ 900) (id y : Int) (hi : Bt id) : Calls Tryd.prog 21 #[.pointer (some ⟨p, 0, none⟩), .int .i64 id, .int .i64 y] w fun e w' => e = .returned (erv es (putE F id y 0)) ∧ Pg es w0 w' p (mm + 1) (putF F id y 0) := by
  obtain ⟨m, L, hP, rfl⟩ := h.ex
  exact (fbelow_any h.fe hP h.ok.nok (h.ok.few hm hP) id y hi).mono fun _ _ ⟨h1, L', hR⟩ => ⟨h1, h.pfr hP hR (h.ok.put id y 0)⟩
theorem Pg.syn (h : Pg es w0 w p mm F) (_hm : mm ≤ 900) (id : Int) (hi : Bt id) (on : Bool) : Calls Tryd.prog 18 #[.pointer (some ⟨p, 0, none⟩), .int .i64 id, .bool on] w fun e w' => e = .returned (erv es (unsE F id)) ∧ Pg es w0 w' p (mm + 1) (synF F id on) := by
  obtain ⟨m, L, hP, rfl⟩ := h.ex
  exact (fsync_any h.fe hP id hi (fun e he => (h.ok.nok.key id e he).2) on).mono fun _ _ ⟨h1, L', hR⟩ => ⟨h1, h.pfr hP hR (h.ok.syn id on)⟩
theorem Pg.com (h : Pg es w0 w p mm F) (hm : mm ≤ 900) (id : Int) (hi : Bt id) : Calls Tryd.prog 12 #[.pointer (some ⟨p, 0, none⟩), .int .i64 id] w fun e w' => ∃ a c, e = .returned (.tuple #[.slice a (comB F id).2.length c, erv es (hasE F id)]) ∧ Rz w' a (comB F id).2.length c (comB F id).2 ∧ Pg es w0 w' p (mm + 1) (comB F id).1 := by
  obtain ⟨m, L, hP, rfl⟩ := h.ex
  refine (fcommit_any hm h.fe h.ng hP h.ok id hi).mono fun e w' ⟨L', vl, h1, h2, hR⟩ => ?_
  rw [h.ok.inv.comF] at h2 hR
  obtain ⟨a, c, rfl, hr⟩ := own_rz0 h2
  exact ⟨a, c, h1, hr, h.pfr hP hR (by rw [← h.ok.inv.comF]; exact h.ok.com 41 id)⟩
theorem Pg.has (h : Pg es w0 w p mm F) (id : Int) (hi : Bt id) : Calls Tryd.prog 24 #[.pointer (some ⟨p, 0, none⟩), .int .i64 id] w fun e w' => e = .returned (.bool (gt F id).isSome) ∧ w' = w := by
  obtain ⟨m, L, hP, rfl⟩ := h.ex
  refine (fhas_any hP id hi).mono fun e w' ⟨h1, h2⟩ => ⟨?_, h2⟩
  rw [h1, gt_pab]
  cases gt L id <;> rfl
theorem Pg.par (h : Pg es w0 w p mm F) (id : Int) (hi : Bt id) : Calls Tryd.prog 26 #[.pointer (some ⟨p, 0, none⟩), .int .i64 id] w fun e w' => e = .returned (.int .i64 (parF F id)) ∧ Below w.heap.size w w' := by
  obtain ⟨m, L, hP, rfl⟩ := h.ex
  exact (fparent_any h.fe hP id hi).mono fun e w' ⟨h1, q, h2⟩ => ⟨h1, by rw [h2]; exact below_drewN (Below.refl _ _) q⟩
theorem Pg.syd (h : Pg es w0 w p mm F) (id : Int) (hi : Bt id) : Calls Tryd.prog 16 #[.pointer (some ⟨p, 0, none⟩), .int .i64 id] w fun e w' => e = .returned (.bool (syB 40 F id)) ∧ Below w.heap.size w w' := by
  obtain ⟨m, L, hP, rfl⟩ := h.ex
  exact (fsynced_one h.fe hP h.ok.nok id hi).mono fun e w' ⟨h1, q, h2⟩ => ⟨by rw [h1, h.ok.inv.sy], by rw [h2]; exact below_drewN (Below.refl _ _) q⟩
theorem Pg.sca (h : Pg es w0 w p mm F) (hm : mm ≤ 900) (id : Int) (hi : Bt id) : Calls Tryd.prog 19 #[.pointer (some ⟨p, 0, none⟩), .int .i64 id] w (Rst w (((gt F id).map Sf.ca).getD sq0)) := by
  obtain ⟨m, L, hP, rfl⟩ := h.ex
  have := fcached_any hm h.fe hP h.ok id hi
  rw [show sho Sr.ca L id = ((gt (pab L) id).map Sf.ca).getD sq0 by rw [sho, gt_pab]; cases gt L id <;> rfl] at this
  exact this
theorem Pg.sno (h : Pg es w0 w p mm F) (hm : mm ≤ 900) (id : Int) (hi : Bt id) : Calls Tryd.prog 13 #[.pointer (some ⟨p, 0, none⟩), .int .i64 id] w (Rst w (((gt F id).map Sf.no).getD sq0)) := by
  obtain ⟨m, L, hP, rfl⟩ := h.ex
  have := fcurrent_any hm h.fe hP h.ok id hi
  rw [show sho Sr.no L id = ((gt (pab L) id).map Sf.no).getD sq0 by rw [sho, gt_pab]; cases gt L id <;> rfl] at this
  exact this
theorem Pg.wlk (h : Pg es w0 w p mm F) (id : Int) (hi : Bt id) : Calls Tryd.prog 14 #[.pointer (some ⟨p, 0, none⟩), .int .i64 id] w fun e w' => ∃ a c, e = .returned (.slice a (Proofs.YtdgknofpkafppaaDoor.wlk F 41 id 0 0).length c) ∧ RdM 3 w' a (Proofs.YtdgknofpkafppaaDoor.wlk F 41 id 0 0).length c (Proofs.YtdgknofpkafppaaDoor.wlk F 41 id 0 0) ∧ Below w.heap.size w w' := by
  obtain ⟨m, L, hP, rfl⟩ := h.ex
  refine (fwalk_any h.fe h.ng hP h.ok id hi).mono fun e w' ⟨v, h1, h2, hR⟩ => ?_
  obtain ⟨a, c, rfl, hr⟩ := own_rd3 h2 (wlk_size _ _ _ _)
  exact ⟨a, c, h1, hr, hR⟩
theorem Pg.hld (h : Pg es w0 w p mm F) : Calls Tryd.prog 15 #[.pointer (some ⟨p, 0, none⟩)] w fun e w' => ∃ a c ys, e = .returned (.slice a ys.length c) ∧ Rz w' a ys.length c ys ∧ Ris ys ∧ (∀ x, x ∈ ys ↔ 0 < x ∧ x ∈ hldL F) ∧ Below w.heap.size w w' := by
  obtain ⟨m, L, hP, rfl⟩ := h.ex
  refine (fheld_any hP (by rw [← pab_length L]; exact h.ok.inv.len)).mono fun e w' ⟨v, ys, h1, ho, hr, hm⟩ => ?_
  obtain ⟨a, c, rfl, hr2, _⟩ := ho.rd
  exact ⟨a, c, ys, h1, hr2, hr, hm, ho.bel⟩
theorem Pg.all (h : Pg es w0 w p mm F) : Calls Tryd.prog 25 #[.pointer (some ⟨p, 0, none⟩)] w fun e w' => ∃ a c ys, e = .returned (.slice a ys.length c) ∧ Rz w' a ys.length c ys ∧ Ris ys ∧ (∀ x, x ∈ ys ↔ x ∈ keys F) ∧ Below w.heap.size w w' := by
  obtain ⟨m, L, hP, rfl⟩ := h.ex
  refine (fall_any hP (by rw [← pab_length L]; exact h.ok.inv.len)).mono fun e w' ⟨v, ys, h1, ho, hr, hm⟩ => ?_
  obtain ⟨a, c, rfl, hr2, _⟩ := ho.rd
  exact ⟨a, c, ys, h1, hr2, hr, fun x => by rw [hm, pab_keys], ho.bel⟩
end Go.Proofs.YtdgknofpkafppaaDoor

/- awake of law 17: the document's example. -/
namespace Go.Proofs.YtdgknofpkafppaaDoor
open Go Go.RowKit

theorem bt1 : Bt 1 := ⟨by decide, by decide⟩
theorem bt2 : Bt 2 := ⟨by decide, by decide⟩
set_option maxRecDepth 100000 in
set_option maxHeartbeats 1000000 in
theorem fawake_any {es : List Addr} (w : World) (hE : Fe w es) (hn : 5 ≤ w.heap.size) : Calls Tryd.prog 17 #[] w fun e w' => e = .returned (.bool true) ∧ Below w.heap.size w w' := by
  obtain ⟨a1, a2, a3, a4, a5, a6, a7, a8⟩ := aw_facts
  have A1 := hid a1
  have A2 := hid a2
  have A3 := hid a3
  have A4 := hid a4
  have A5 := hid a5
  have A6 := hid a6
  have A7 := hid a7
  have A8 := hid a8
  have CN := hid (pg_new w w (Below.refl _ _) hE hn)
  clear a1 a2 a3 a4 a5 a6 a7 a8 hE hn
  go_enter Tryd.func17, Tryd.ntmps17
  go_wp2_with fail
  refine CN.out.mono ?_
  rintro e w1 ⟨p, rfl, hp1, -⟩
  have C1 := hid (hp1.add (by omega) 1 bt1)
  rw [A1.out] at C1
  clear hp1 CN
  go_wp2_with fail
  refine C1.out.mono ?_
  rintro e w2 ⟨rfl, hp2⟩
  have C2 := hid (hp2.add (by omega) 2 bt2)
  rw [A2.out] at C2
  rw [erv0]
  clear hp2 C1
  go_wp2_with fail
  refine C2.out.mono ?_
  rintro e w3 ⟨rfl, hp3⟩
  have C3 := hid (hp3.sub (by omega) 2 1 bt2 bt1)
  rw [A3.out] at C3
  rw [erv0]
  clear hp3 C2
  go_wp2_with fail
  refine C3.out.mono ?_
  rintro e w4 ⟨rfl, hp4⟩
  have C4 := hid (hp4.frm (by omega) 2 9 bt2)
  rw [A4.out] at C4
  rw [erv0]
  clear hp4 C3
  go_wp2_with fail
  refine C4.out.mono ?_
  rintro e w5 ⟨rfl, hp5⟩
  have hp5' : Pg es w w5 p (0 + 1 + 1 + 1 + 1) awF := hp5
  have C5 := hid (hp5'.com (by omega) 2 bt2)
  rw [A5.out, A6.out] at C5
  rw [erv0]
  clear hp5 hp5' C4
  go_wp2_with fail
  refine C5.out.mono ?_
  rintro e w6 ⟨va, vc, rfl, hr6, hp6⟩
  have C6 := hid (hp6.com (by omega) 1 bt1)
  rw [A7.out, A8.out] at C6
  rw [erv0]
  clear hp6 C5 hr6
  go_wp2_with fail
  refine C6.out.mono ?_
  rintro e w7 ⟨vb, vd, rfl, hr7, hp7⟩
  have hb7 := bel_new w7 (.cells #[.int .i64 1, .int .i64 2] 3)
  have C7 := hid (samez_any vb _ 2 vd 2 2 [1, 2] [1, 2] _ (hr7.on hb7) (rz_lit (l := [1, 2]) (heap_alloc_new w7 _) (by decide)))
  have HB := hid (Below.on hp7.bel hb7)
  rw [erv0]
  clear hp7 hr7 hb7 C6
  go_wp2_with fail
  refine C7.out.mono ?_
  rintro e w8 ⟨rfl, q8, rfl⟩
  rw [zeq_same]
  go_wp2
  go_ret
  exact ⟨rfl, below_drewN HB.out q8⟩
end Go.Proofs.YtdgknofpkafppaaDoor

/- Place: a number as a place. -/
namespace Go.Proofs.YtdgknofpkafppaaDoor
open Go Go.RowKit

/-- A number as a place. -/
def plc (v : Int) (n : Nat) : Nat := (v % n).toNat

theorem plc_lt (v : Int) (n : Nat) (h : 0 < n) : plc v n < n := by
  have h1 := Int.emod_nonneg v (b := (n : Int)) (by omega)
  have h2 := Int.emod_lt_of_pos v (b := (n : Int)) (by omega)
  unfold plc
  omega

theorem ret_plc {k : IntKind} {a b : Int} (h : a = b) : Ending.returned (.int k a) = .returned (.int k b) := by rw [h]

theorem place_any (v : Int) (n : Nat) (_hv : -9223372036854775808 ≤ v ∧ v ≤ 9223372036854775807) (hn : 0 < n) (hn2 : n ≤ 1152921504606846976) (w : World) :
    Calls Tryd.prog 7 #[.int .i64 v, .int .i64 n] w fun e w' => e = .returned (.int .i64 (plc v n : Nat)) ∧ w' = w := by
  have h0 : ¬ ((n : Int) = 0) := by omega
  go_enter Tryd.func7, Tryd.ntmps7
  have hb := Int.emod_nonneg v (b := (n : Int)) (by omega)
  have hb2 := Int.emod_lt_of_pos v (b := (n : Int)) (by omega)
  have HP : Hid (((plc v n : Nat) : Int) = v % n) := by simp only [Hid]; unfold plc; omega
  have HT : Hid (v.tmod n = if 0 ≤ v ∨ (n : Int) ∣ v then v % n else v % n - n) := by
    simp only [Hid]
    rw [Int.tmod_eq_emod]
    split <;> simp
  have ht : -9223372036854775808 ≤ v.tmod n + n ∧ v.tmod n + n ≤ 9223372036854775807 := by rw [HT.out]; split <;> omega
  clear hb hb2
  go_wp2
  all_goals
    go_ret
    refine ⟨ret_plc ?_, rfl⟩
    have hb := Int.emod_nonneg v (b := (n : Int)) (by omega)
    have hb2 := Int.emod_lt_of_pos v (b := (n : Int)) (by omega)
    have h1 := HT.out
    rw [HP.out]
    split at h1 <;> omega
end Go.Proofs.YtdgknofpkafppaaDoor

/- The five errors of a forest, as a row lays them. -/
namespace Go.Proofs.YtdgknofpkafppaaDoor
open Go Go.RowKit

/-- The five listed variables: name, datum, number. -/
def L5 : List (String × DataW Unit × Nat) := [("tableau/api.ErrArg", Rows.laid_tableau_api_ErrArg, 0), ("tableau/api.ErrBig", Rows.laid_tableau_api_ErrBig, 2), ("tableau/api.ErrObject", Rows.laid_tableau_api_ErrObject, 1), ("tableau/api.ErrRole", Rows.laid_tableau_api_ErrRole, 3), ("tableau/api.ErrPlace", Rows.laid_tableau_api_ErrPlace, 4)]
theorem laid5 : ∀ x ∈ L5, Tryd.prog.globalNamed x.1 = some x.2.2 ∧ (Tryd.prog.globals[x.2.2]?).map (·.type) = some 27 ∧ ∃ t, x.2.1 = .iface "*errors.errorString" (.ptr (.agg [.lit (.string t)])) := by
  intro x hx
  simp only [L5, List.mem_cons, List.not_mem_nil, or_false] at hx
  rcases hx with rfl | rfl | rfl | rfl | rfl
  all_goals exact ⟨by kernel_rfl, by kernel_rfl, _, rfl⟩
theorem fe5 {W : World} (h : laidMetH Tryd.prog (L5.map fun x => (x.1, x.2.1)) W) : ∃ es, Fe W es := by
  rw [MakeChecks.laidMetH_plain _ _ _ (by kernel_rfl)] at h
  obtain ⟨fs, hE⟩ := errs_of_laid L5 laid5 h
  have hl : fs.length = 5 := hE.len
  match fs, hl with
  | [x0, x1, x2, x3, x4], _ =>
    exact ⟨[x0, x0, x0, x1, x2, x0, x0, x0, x0, x3, x4], (hE.each 0 _ _ rfl rfl).1, (hE.each 1 _ _ rfl rfl).1, (hE.each 2 _ _ rfl rfl).1, (hE.each 3 _ _ rfl rfl).1, (hE.each 4 _ _ rfl rfl).1⟩
theorem ng5 {w : World} {es : List Addr} (h : Fe w es) : 5 ≤ w.heap.size := by
  have h0 := World.block_lt_of_cell? _ _ h.arg
  have h1 := World.block_lt_of_cell? _ _ h.big
  have h2 := World.block_lt_of_cell? _ _ h.obj
  have h3 := World.block_lt_of_cell? _ _ h.rol
  have h4 := World.block_lt_of_cell? _ _ h.plc
  simp only at h0 h1 h2 h3 h4
  omega
theorem wfB {z : Int} (h : (Lit.int .i64 z).wf = true) : -9223372036854775808 ≤ z ∧ z ≤ 9223372036854775807 := by simpa [Lit.wf, IntKind.min, IntKind.max, IntKind.signed, IntKind.bits] using h
end Go.Proofs.YtdgknofpkafppaaDoor
