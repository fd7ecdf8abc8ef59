/- Damage: rectangles added one by one to a region that is held to few; how many rectangles a region of so many may have. No program. -/
import Derived.Test.YtlkodgmnhphfcaaRgnS
namespace Go.Proofs.Ytlkodgmnhphfcaa
open Go Go.RowKit

/-- A rectangle added: the union, or, if it has too many, what covers it. -/
def dput (m : List Rc) (r : Rc) : List Rc := if 40 < (mk or m (ofl r)).length then [cvl (mk or m (ofl r))] else mk or m (ofl r)
/-- All of them, one by one. -/
def dfl (l : List Rc) : List Rc := l.foldl dput []
theorem dfl_nil : dfl [] = [] := rfl
theorem dfl_snoc {l : List Rc} {j : Nat} {r : Rc} (h : l[j]? = some r) : dfl (l.take (j + 1)) = dput (dfl (l.take j)) r := by
  rw [List.take_add_one, h]
  simp [dfl]
theorem dfl_push (l : List Rc) (r : Rc) : dfl (l ++ [r]) = dput (dfl l) r := by simp [dfl]

theorem cvl_full {l : List Rc} (hk : ∀ r ∈ l, Ck r) (hn : l ≠ []) : Ck (cvl l) := by
  have key : ∀ (l : List Rc) (a : Rc), (∀ r ∈ l, Ck r) → Ck a → Ck (l.foldl cov a) := by
    intro l
    induction l with
    | nil => intro a _ h; exact h
    | cons r l ih => intro a hk ha; exact ih _ (fun x hx => hk x (by simp [hx])) (cov_ck ha (hk r (by simp)))
  cases l with
  | nil => exact absurd rfl hn
  | cons r l =>
    show Ck (l.foldl cov (cov rz r))
    have k := hk r (by simp)
    rw [cov_rz, pln_full k.emp]
    exact key l r (fun x hx => hk x (by simp [hx])) k
theorem cvl_pt {l : List Rc} (hk : ∀ r ∈ l, Ck r) {x y : Int} (h : pt l x y = true) : has (cvl l) x y = true := by
  have key : ∀ (l : List Rc) (a : Rc), (∀ r ∈ l, Ck r) → (a = rz ∨ Ck a) → (has a x y = true ∨ pt l x y = true) → has (l.foldl cov a) x y = true := by
    intro l
    induction l with
    | nil =>
      intro a _ _ h
      rcases h with h | h
      · exact h
      · cases h
    | cons r l ih =>
      intro a hk ha h
      have k := hk r (by simp)
      have ma := may_of ha
      have mr := may_of (.inr k : r = rz ∨ Ck r)
      refine ih _ (fun x hx => hk x (by simp [hx])) (cov_may ma mr) ?_
      rw [pt_cons, Bool.or_eq_true] at h
      rcases h with h | h | h
      · exact .inl (has_cov ma mr (.inl h))
      · exact .inl (has_cov ma mr (.inr h))
      · exact .inr h
  exact key l rz hk (.inl rfl) (.inr h)
theorem ofl_ck {r : Rc} (k : Ck r) : ofl r = [r] := by
  rw [ofl, bnd_ck k, if_neg (by rw [k.emp]; decide)]
theorem mk_ne {m : List Rc} {r : Rc} (h : 40 < (mk or m (ofl r)).length) : mk or m (ofl r) ≠ [] := fun e => by rw [e] at h; exact absurd h (by decide)
theorem dor {m : List Rc} (h : Reg m) (r : Rc) : Reg (mk or m (ofl r)) ∧ ∀ x y, pt (mk or m (ofl r)) x y = (pt m x y || pt (ofl r) x y) := by
  obtain ⟨h1, h2, _⟩ := mk_all (f := or) (a := m) (b := ofl r) rfl h.ck (ofl_reg r).ck
  exact ⟨h1, h2⟩
theorem dput_reg {m : List Rc} (h : Reg m) (r : Rc) : Reg (dput m r) := by
  rw [dput]
  split
  · rename_i hl
    exact reg_one (cvl_full (dor h r).1.ck (mk_ne hl))
  · exact (dor h r).1
theorem dput_len (m : List Rc) (r : Rc) : (dput m r).length ≤ 40 := by
  rw [dput]
  split
  · exact (by decide : 1 ≤ 40)
  · omega
theorem dput_pt {m : List Rc} (h : Reg m) {r : Rc} {x y : Int} (hp : pt m x y = true ∨ pt (ofl r) x y = true) : pt (dput m r) x y = true := by
  have e : pt (mk or m (ofl r)) x y = true := by rw [(dor h r).2, Bool.or_eq_true]; exact hp
  rw [dput]
  split
  · rw [pt_cons, cvl_pt (dor h r).1.ck e, Bool.true_or]
  · exact e
theorem dfl_all {l : List Rc} : Reg (dfl l) ∧ (dfl l).length ≤ 40 := by
  have key : ∀ (l m : List Rc), Reg m → m.length ≤ 40 → Reg (l.foldl dput m) ∧ (l.foldl dput m).length ≤ 40 := by
    intro l
    induction l with
    | nil => intro m h h'; exact ⟨h, h'⟩
    | cons r l ih => intro m h _; exact ih _ (dput_reg h r) (dput_len m r)
  exact key l [] reg_nil (by decide)
theorem dfl_reg (l : List Rc) : Reg (dfl l) := dfl_all.1
theorem dfl_len (l : List Rc) : (dfl l).length ≤ 40 := dfl_all.2
theorem dfl_pts {l : List Rc} {r : Rc} (hr : r ∈ l) {x y : Int} (hp : pt (ofl r) x y = true) : pt (dfl l) x y = true := by
  have key : ∀ (l m : List Rc), Reg m → (pt m x y = true ∨ r ∈ l) → pt (l.foldl dput m) x y = true := by
    intro l
    induction l with
    | nil =>
      intro m h h'
      rcases h' with h' | h'
      · exact h'
      · cases h'
    | cons a l ih =>
      intro m h h'
      refine ih _ (dput_reg h a) ?_
      rcases h' with h' | h'
      · exact .inl (dput_pt h (.inl h'))
      · rcases List.mem_cons.1 h' with rfl | h'
        · exact .inl (dput_pt h (.inr hp))
        · exact .inr h'
  exact key l [] reg_nil (.inr hr)

/-- A point of the field is in what is left of a rectangle just if it is in it. -/
theorem ofl_has {r : Rc} (ok : r.Ok) {x y : Int} (hx : -16777216 ≤ x ∧ x < 16777216) (hy : -16777216 ≤ y ∧ y < 16777216) : pt (ofl r) x y = has r x y := by
  obtain ⟨⟨_, o1⟩, ⟨_, o2⟩, ⟨_, o3⟩, ⟨_, o4⟩⟩ := ok
  have e : has (bnd r) x y = has r x y := by
    cases he : emp r
    · rw [bnd, cut, if_neg (by rw [he]; decide)]
      have e1 : en fld.x fld.w = 16777216 := by decide
      have e2 : en fld.y fld.h = 16777216 := by decide
      have e3 : fld.x = -16777216 := rfl
      have e4 : fld.y = -16777216 := rfl
      obtain ⟨s1, s2⟩ := sizes he
      rw [e1, e2, e3, e4, oft, Bool.eq_iff_iff, has_iff]
      unfold en
      split <;> split <;> split <;> rw [has_iff] <;> simp only [rz] <;> omega
    · rw [bnd, cut, if_pos (.inl he), has_rz, has_emp he]
  rw [← e, ofl]
  split
  · rename_i h; rw [has_emp h]; rfl
  · rw [pt_cons, pt_nil, Bool.or_false]

/-- Where lines of one lie within the other. -/
def two (a b : Rc) : List (Int × Int) :=
  (if a.y < b.y ∧ b.y < a.y + a.h then [(a.x, b.y)] else []) ++ ((if a.y < b.y + b.h ∧ b.y + b.h < a.y + a.h then [(a.x, b.y + b.h)] else []) ++
    ((if b.y < a.y ∧ a.y < b.y + b.h then [(b.x, a.y)] else []) ++ (if b.y < a.y + a.h ∧ a.y + a.h < b.y + b.h then [(b.x, a.y + a.h)] else [])))
theorem ifl {p : Prop} [Decidable p] (u : Int × Int) : (if p then [u] else []).length = if p then 1 else 0 := by split <;> rfl
theorem two_len (a b : Rc) : (two a b).length ≤ 2 := by
  rw [two, List.length_append, List.length_append, List.length_append, ifl, ifl, ifl, ifl]
  split <;> split <;> split <;> split <;> omega
theorem two_aft {a b : Rc} (ka : Ck a) (kb : Ck b) (h : Aft a b) : two a b = [] := by
  have := ka.h
  have := kb.h
  rw [two, if_neg, if_neg, if_neg, if_neg]
  · rfl
  all_goals (rcases h with ⟨_, _, _⟩ | _ <;> omega)
theorem two_mem {a b : Rc} {e : Int} (h : a.y < e ∧ e < a.y + a.h) (he : e = b.y ∨ e = b.y + b.h) : (a.x, e) ∈ two a b ∧ (a.x, e) ∈ two b a := by
  unfold two
  simp only [List.mem_append]
  rcases he with rfl | rfl
  · rw [if_pos h]
    simp
  · exact ⟨.inr (.inl (by rw [if_pos h]; simp)), .inr (.inr (.inr (by rw [if_pos h]; simp)))⟩
def cnd : List Rc → List (Int × Int)
  | [] => []
  | a :: t => (a.x, a.y) :: (t.flatMap (two a) ++ cnd t)
theorem flat2 (a : Rc) (t : List Rc) : (t.flatMap (two a)).length ≤ 2 * t.length := by
  induction t with
  | nil => exact Nat.le_refl _
  | cons b t ih =>
    have := two_len a b
    rw [List.flatMap_cons, List.length_append, List.length_cons]
    omega
theorem cnd_len : ∀ l : List Rc, (cnd l).length ≤ l.length * l.length
  | [] => Nat.le_refl _
  | a :: t => by
    have h1 := cnd_len t
    have h2 := flat2 a t
    rw [cnd, List.length_cons, List.length_append, List.length_cons, Nat.add_mul, Nat.mul_add]
    omega
theorem cnd_bands : ∀ {l : List Rc}, (∀ r ∈ l, Ck r) → l.Pairwise Aft → (cnd l).length = l.length
  | [], _, _ => rfl
  | a :: t, hk, hp => by
    rw [List.pairwise_cons] at hp
    have e : t.flatMap (two a) = [] := by
      rw [List.flatMap_eq_nil_iff]
      exact fun b hb => two_aft (hk a (by simp)) (hk b (by simp [hb])) (hp.1 b hb)
    rw [cnd, e, List.nil_append, List.length_cons, List.length_cons, cnd_bands (fun r hr => hk r (by simp [hr])) hp.2]
theorem cnd_top {l : List Rc} {a : Rc} (h : a ∈ l) : (a.x, a.y) ∈ cnd l := by
  induction l with
  | nil => cases h
  | cons c t ih =>
    rcases List.mem_cons.1 h with rfl | h
    · rw [cnd]; exact List.mem_cons_self ..
    · rw [cnd]; exact List.mem_cons_of_mem _ (List.mem_append.2 (.inr (ih h)))
theorem cnd_in {l : List Rc} {a b : Rc} (ha : a ∈ l) (hb : b ∈ l) {e : Int} (h : a.y < e ∧ e < a.y + a.h) (he : e = b.y ∨ e = b.y + b.h) : (a.x, e) ∈ cnd l := by
  induction l with
  | nil => cases ha
  | cons c t ih =>
    rw [cnd]
    refine List.mem_cons_of_mem _ (List.mem_append.2 ?_)
    rcases List.mem_cons.1 ha with e1 | ha'
    · rcases List.mem_cons.1 hb with e2 | hb'
      · subst e1 e2; omega
      · subst e1; exact .inl (List.mem_flatMap.2 ⟨b, hb', (two_mem h he).1⟩)
    · rcases List.mem_cons.1 hb with e2 | hb'
      · subst e2; exact .inl (List.mem_flatMap.2 ⟨a, ha', (two_mem h he).2⟩)
      · exact .inr (ih ha' hb')

/-- How many rectangles the region of some may have. -/
theorem reg_cnt {l m : List Rc} (hm : Reg m) (h : ∀ x y, pt m x y = pt l x y) : m.length ≤ (cnd l).length := by
  have h1 : (m.map fun r => (r.x, r.y)).Nodup := by
    rw [List.nodup_iff_pairwise_ne, List.pairwise_map]
    refine hm.aft.imp_of_mem fun {a b} ha hb hr e => ?_
    have k1 := (hm.ck a ha).w
    have k2 := (hm.ck a ha).h
    simp only [Prod.mk.injEq] at e
    rcases hr with ⟨_, _, _⟩ | _ <;> omega
  have h2 := nodup_len (m := cnd l) h1 fun p hp => by
    obtain ⟨r, hr, rfl⟩ := List.mem_map.1 hp
    have k := hm.mark hr
    have kw := k.w
    have i1 := k.ins r.x (by omega) (by omega)
    have i2 := k.left
    rw [h] at i1 i2
    obtain ⟨a, ha, h3⟩ := pt_iff.1 i1
    have h4 := pt_no.1 i2 a ha
    rw [has_iff] at h3
    have ex : a.x = r.x := by
      rcases Int.lt_or_le a.x r.x with h5 | h5
      · rw [← Bool.not_eq_true, has_iff] at h4
        omega
      · omega
    rw [← ex]
    rcases Int.lt_or_le a.y r.y with h5 | h5
    · obtain ⟨x, hx⟩ := k.top
      rw [h, h] at hx
      have hb : ∃ b ∈ l, r.y = b.y ∨ r.y = b.y + b.h := by
        cases e1 : pt l x (r.y - 1)
        · cases e2 : pt l x r.y
          · exact absurd (e1.trans e2.symm) hx
          · obtain ⟨b, hb, h6⟩ := pt_iff.1 e2
            have h7 := pt_no.1 e1 b hb
            rw [← Bool.not_eq_true, has_iff] at h7
            rw [has_iff] at h6
            exact ⟨b, hb, by omega⟩
        · cases e2 : pt l x r.y
          · obtain ⟨b, hb, h6⟩ := pt_iff.1 e1
            have h7 := pt_no.1 e2 b hb
            rw [← Bool.not_eq_true, has_iff] at h7
            rw [has_iff] at h6
            exact ⟨b, hb, by omega⟩
          · exact absurd (e1.trans e2.symm) hx
      obtain ⟨b, hb, he⟩ := hb
      exact cnd_in ha hb ⟨h5, by omega⟩ he
    · have ey : a.y = r.y := by omega
      rw [← ey]
      exact cnd_top ha
  rw [List.length_map] at h2
  exact h2

theorem cnd_snoc_len (l : List Rc) (r : Rc) : (cnd (l ++ [r])).length ≤ (cnd l).length + 2 * l.length + 1 := by
  induction l with
  | nil => exact Nat.le_refl _
  | cons a t ih =>
    have h := two_len a r
    rw [List.cons_append, cnd, cnd, List.length_cons, List.length_cons, List.length_append, List.length_append, List.flatMap_append, List.length_append, List.length_cons]
    have e : ([r].flatMap (two a)).length = (two a r).length := by simp
    omega
/-- A region of 40, and one more: how many there may be. -/
theorem dor_len {m : List Rc} (h : Reg m) (hl : m.length ≤ 40) (r : Rc) : (mk or m (ofl r)).length ≤ 121 := by
  have hd := dor h r
  have h1 := reg_cnt (l := m ++ ofl r) hd.1 fun x y => by rw [hd.2, pt_append]
  have h2 := cnd_bands h.ck h.aft
  have e : ofl r = [] ∨ ofl r = [bnd r] := by
    rw [ofl]
    split
    · exact .inl rfl
    · exact .inr rfl
  rcases e with e | e
  · rw [e] at h1 ⊢
    rw [List.append_nil] at h1; omega
  · have h3 := cnd_snoc_len m (bnd r)
    rw [e] at h1 ⊢
    omega

/-- Where the region never has too many, its points are all of theirs. -/
theorem dfl_just {l : List Rc} (h : ∀ j, (cnd ((l.take j).flatMap ofl)).length ≤ 40) (x y : Int) : pt (dfl l) x y = pt (l.flatMap ofl) x y := by
  have key : ∀ j, j ≤ l.length → ∀ x y, pt (dfl (l.take j)) x y = pt ((l.take j).flatMap ofl) x y := by
    intro j
    induction j with
    | zero => intro _ x y; rfl
    | succ j ih =>
      intro hj x y
      have hr : l[j]? = some l[j] := List.getElem?_eq_getElem (by omega)
      have ih' := ih (by omega)
      have e : (l.take (j + 1)).flatMap ofl = (l.take j).flatMap ofl ++ ofl l[j] := by
        rw [List.take_add_one, hr, List.flatMap_append, Option.toList_some, List.flatMap_cons, List.flatMap_nil, List.append_nil]
      have hd := dor (dfl_reg (l.take j)) l[j]
      have hl := reg_cnt (l := (l.take (j + 1)).flatMap ofl) hd.1 fun x y => by rw [hd.2, e, pt_append, ih']
      rw [dfl_snoc hr, dput, if_neg (by have := h (j + 1); omega), hd.2, e, pt_append, ih']
  have := key l.length (Nat.le_refl _) x y
  rwa [List.take_length] at this
theorem ofl_flat_len (l : List Rc) : (l.flatMap ofl).length ≤ l.length := by
  induction l with
  | nil => exact Nat.le_refl _
  | cons r l ih =>
    have := ofl_length r
    rw [List.flatMap_cons, List.length_append, List.length_cons]
    omega
/-- Few. -/
theorem dfl_few {l : List Rc} (h : l.length ≤ 6) (x y : Int) : pt (dfl l) x y = pt (l.flatMap ofl) x y := dfl_just (fun j => by
  have h1 := cnd_len ((l.take j).flatMap ofl)
  have h2 := ofl_flat_len (l.take j)
  rw [List.length_take] at h2
  have h3 : ((l.take j).flatMap ofl).length ≤ 6 := by omega
  have h4 := Nat.mul_le_mul h3 h3
  omega) x y
theorem ofl_flat {l : List Rc} (hk : ∀ r ∈ l, Ck r) : l.flatMap ofl = l := by
  induction l with
  | nil => rfl
  | cons r l ih => rw [List.flatMap_cons, ofl_ck (hk r (by simp)), ih fun a ha => hk a (by simp [ha])]; rfl
/-- A region, added anew, is itself. -/
theorem dfl_again {l : List Rc} (h : Reg l) (hl : l.length ≤ 40) : dfl l = l := by
  refine reg_eq (dfl_reg l) h fun x y => ?_
  rw [dfl_just (fun j => ?_), ofl_flat h.ck]
  have hk : ∀ r ∈ l.take j, Ck r := fun r hr => h.ck r (List.mem_of_mem_take hr)
  rw [ofl_flat hk, cnd_bands hk (h.aft.sublist (List.take_sublist j l)), List.length_take]
  omega
/-- What is there is added to no effect. -/
theorem dput_there {m : List Rc} (h : Reg m) (hl : m.length ≤ 40) {r : Rc} (hr : ∀ x y, pt (ofl r) x y = true → pt m x y = true) : dput m r = m := by
  have e : mk or m (ofl r) = m := reg_eq (dor h r).1 h fun x y => by
    rw [(dor h r).2]
    cases e1 : pt m x y
    · cases e2 : pt (ofl r) x y
      · rfl
      · rw [hr x y e2] at e1; cases e1
    · rfl
  rw [dput, e, if_neg (by omega)]
/-- Few: the order plays no part. -/
theorem dfl_turn {l : List Rc} (h : l.length ≤ 6) (k : Nat) : dfl (l.drop k ++ l.take k) = dfl l := by
  refine reg_eq (dfl_reg _) (dfl_reg _) fun x y => ?_
  rw [dfl_few (by rw [List.length_append, List.length_drop, List.length_take]; omega), dfl_few h, List.flatMap_append, pt_append, Bool.or_comm, ← pt_append, ← List.flatMap_append, List.take_append_drop]
theorem dput_few {l : List Rc} (h : l.length ≤ 6) {r : Rc} (hr : r ∈ l) : dput (dfl l) r = dfl l := dput_there (dfl_reg l) (dfl_len l) fun x y hp => by
  rw [dfl_few h, pt_iff]
  obtain ⟨a, ha, h'⟩ := pt_iff.1 hp
  exact ⟨a, List.mem_flatMap.2 ⟨r, hr, ha⟩, h'⟩

/-- Rectangles in a line, the first one longer. -/
def lne (p : Int) (k : Nat) : List Rc := ⟨0, 0, p, 1⟩ :: (List.range k).map fun (i : Nat) => ⟨p + 1 + 2 * (i : Int), 0, 1, 1⟩
theorem lne_snoc (p : Int) (k : Nat) : lne p (k + 1) = lne p k ++ [⟨p + 1 + 2 * (k : Int), 0, 1, 1⟩] := by
  rw [lne, lne, List.range_succ, List.map_append]
  rfl
theorem lne_len (p : Int) (k : Nat) : (lne p k).length = k + 1 := by simp [lne]
theorem lne_mem {p : Int} {k : Nat} {r : Rc} (hp : 1 ≤ p) (h : r ∈ lne p k) : r.y = 0 ∧ r.h = 1 ∧ 1 ≤ r.w ∧ 0 ≤ r.x ∧ r.x + r.w ≤ p + 2 * (k : Int) := by
  rcases List.mem_cons.1 h with rfl | h
  · exact ⟨rfl, rfl, hp, Int.le_refl _, by show 0 + p ≤ _; omega⟩
  · obtain ⟨i, hi, rfl⟩ := List.mem_map.1 h
    have := List.mem_range.1 hi
    refine ⟨rfl, rfl, Int.le_refl _, ?_, ?_⟩
    · show 0 ≤ p + 1 + 2 * (i : Int); omega
    · show p + 1 + 2 * (i : Int) + 1 ≤ _; omega
theorem lne_reg {p : Int} (hp : 1 ≤ p) {k : Nat} (hk : p + 2 * (k : Int) ≤ 1000) : Reg (lne p k) := by
  have hck : ∀ r ∈ lne p k, Ck r := fun r hr => by
    obtain ⟨h1, h2, h3, h4, h5⟩ := lne_mem hp hr
    exact ⟨h3, by omega, by omega, by omega, by omega, by omega⟩
  refine ⟨hck, ?_, fun r hr => ⟨r.x, ?_⟩⟩
  · clear hck hk
    induction k with
    | zero => simp [lne]
    | succ k ih =>
      rw [lne_snoc, List.pairwise_append]
      refine ⟨ih, by simp, fun a ha b hb => ?_⟩
      obtain ⟨h1, h2, h3, h4, h5⟩ := lne_mem hp ha
      rw [List.mem_singleton] at hb
      subst hb
      refine .inl ⟨h1.symm, h2.symm, ?_⟩
      show a.x + a.w < p + 1 + 2 * (k : Int)
      omega
  · obtain ⟨h1, h2, h3, h4, h5⟩ := lne_mem hp hr
    have e1 : pt (lne p k) r.x r.y = true := pt_iff.2 ⟨r, hr, has_iff.2 ⟨h3, by omega, by omega, by omega, by omega, by omega⟩⟩
    have e2 : pt (lne p k) r.x (r.y - 1) = false := pt_no.2 fun a ha => has_no (by
      obtain ⟨g1, g2, _⟩ := lne_mem hp ha
      omega)
    rw [e1, e2]
    decide
theorem lne_add {p : Int} (hp : 1 ≤ p) {k : Nat} (hk : p + 2 * (k : Int) + 2 ≤ 1000) : mk or (lne p k) (ofl ⟨p + 1 + 2 * (k : Int), 0, 1, 1⟩) = lne p (k + 1) := by
  have kr : Ck ⟨p + 1 + 2 * (k : Int), 0, 1, 1⟩ := by constructor <;> dsimp only <;> omega
  have hd := dor (lne_reg hp (k := k) (by omega)) ⟨p + 1 + 2 * (k : Int), 0, 1, 1⟩
  refine reg_eq hd.1 (lne_reg hp (by omega)) fun x y => ?_
  rw [hd.2, ofl_ck kr, lne_snoc, pt_append]
theorem lne_cov {p : Int} (hp : 1 ≤ p) {k : Nat} (hk : p + 2 * (k : Int) ≤ 1000) : cvl (lne p k) = ⟨0, 0, p + 2 * (k : Int), 1⟩ := by
  induction k with
  | zero =>
    show cov rz ⟨0, 0, p, 1⟩ = _
    have kc : Ck ⟨0, 0, p, 1⟩ := by constructor <;> dsimp only <;> omega
    rw [cov_rz, pln_full kc.emp]
    simp
  | succ k ih =>
    rw [lne_snoc, cvl, List.foldl_append]
    show cov (cvl (lne p k)) _ = _
    rw [ih (by omega)]
    have k1 : Ck ⟨0, 0, p + 2 * (k : Int), 1⟩ := by constructor <;> dsimp only <;> omega
    have k2 : Ck ⟨p + 1 + 2 * (k : Int), 0, 1, 1⟩ := by constructor <;> dsimp only <;> omega
    rw [cov_sum k1 k2]
    simp only [Rc.mk.injEq]
    refine ⟨by omega, by decide, by omega, by decide⟩
/-- So many in a line. -/
def cmb (k : Nat) : List Rc := (List.range k).map fun (i : Nat) => ⟨2 * (i : Int), 0, 1, 1⟩
theorem cmb_snoc (k : Nat) : cmb (k + 1) = cmb k ++ [⟨2 * (k : Int), 0, 1, 1⟩] := by
  rw [cmb, cmb, List.range_succ, List.map_append]
  rfl
theorem cmb_len (k : Nat) : (cmb k).length = k := by simp [cmb]
theorem cmb_lne (k : Nat) : cmb (k + 1) = lne 1 k := by
  induction k with
  | zero => rfl
  | succ k ih =>
    rw [cmb_snoc, ih, lne_snoc, show (2 * ((k + 1 : Nat) : Int)) = 1 + 1 + 2 * (k : Int) by omega]
theorem dfl_cmb {k : Nat} (hk : k ≤ 40) : dfl (cmb k) = cmb k := by
  induction k with
  | zero => rfl
  | succ k ih =>
    rw [cmb_snoc, dfl_push, ih (by omega), ← cmb_snoc, dput]
    cases k with
    | zero =>
      have kc : Ck ⟨2 * ((0 : Nat) : Int), 0, 1, 1⟩ := by constructor <;> dsimp only <;> omega
      have hd := dor reg_nil ⟨2 * ((0 : Nat) : Int), 0, 1, 1⟩
      have e : mk or (cmb 0) (ofl ⟨2 * ((0 : Nat) : Int), 0, 1, 1⟩) = cmb 1 := reg_eq hd.1 (by rw [cmb_lne]; exact lne_reg (by decide) (by decide)) fun x y => by
        show pt (mk or [] _) x y = _
        rw [hd.2, ofl_ck kc]
        rfl
      rw [e, if_neg (by decide)]
    | succ k =>
      have e := lne_add (p := 1) (by decide) (k := k) (by omega)
      rw [show (1 + 1 + 2 * (k : Int)) = 2 * ((k + 1 : Nat) : Int) by omega] at e
      rw [cmb_lne, e, ← cmb_lne, if_neg (by rw [cmb_len]; omega)]
theorem dfl_many {k : Nat} (hk : k ≤ 30) : dfl (cmb (41 + k)) = lne 81 k := by
  induction k with
  | zero =>
    have e := lne_add (p := 1) (by decide) (k := 39) (by decide)
    rw [show 41 + 0 = 40 + 1 from rfl, cmb_snoc, dfl_push, dfl_cmb (by decide), dput, cmb_lne, show (2 * ((40 : Nat) : Int)) = 1 + 1 + 2 * ((39 : Nat) : Int) from rfl, e, if_pos (by rw [lne_len]; decide), lne_cov (by decide) (by decide)]
    rfl
  | succ k ih =>
    have e := lne_add (p := 81) (by decide) (k := k) (by omega)
    rw [show (81 + 1 + 2 * (k : Int)) = 2 * ((41 + k : Nat) : Int) by omega] at e
    rw [← Nat.add_assoc, cmb_snoc, dfl_push, ih (by omega), dput, e]
    rw [if_neg (by rw [lne_len]; omega)]
end Go.Proofs.Ytlkodgmnhphfcaa
