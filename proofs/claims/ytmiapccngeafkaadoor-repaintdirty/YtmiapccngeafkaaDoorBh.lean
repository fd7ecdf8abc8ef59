/- Damage: rectangles added one by one to a region that is held to few; how many rectangles a region of so many may have. No program. -/
import Derived.Test.YtmiapccngeafkaaDoorBg
import Derived.Test.YtmiapccngeafkaaDoorBf
import Derived.Test.YtmiapccngeafkaaDoorBd
import Derived.Test.YtmiapccngeafkaaDoorChecked
import Derived.Laws.StructEq
import Derived.BigQuiet
import Derived.Laws.CopyOwn
import Derived.Test.YtmiapccngeafkaaDoorBc
namespace Go.Proofs.YtmiapccngeafkaaDoor
open Go Go.RowKit

/-- A rectangle added: the union, or, if it has too many, what covers it. -/
def dput (m : List Rc) (r : Rc) : List Rc := if 40 < (mk or m (ofl r)).length then [cvl (mk or m (ofl r))] else mk or m (ofl r)
/-- All of them, one by one. -/
def dfl (l : List Rc) : List Rc := l.foldl dput []
theorem dfl_nil : dfl [] = [] := rfl
theorem dfl_snoc {l : List Rc} {j : Nat} {r : Rc} (h : l[j]? = some r) : dfl (l.take (j + 1)) = dput (dfl (l.take j)) r := by
  rw [List.take_add_one, h]
  simp [dfl]
theorem dfl_push (l : List Rc) (r : Rc) : dfl (l ++ [r]) = dput (dfl l) r := by simp [dfl]

theorem cvl_full {l : List Rc} (hk : ∀ r ∈ l, Ck r) (hn : l ≠ []) : Ck (cvl l) := by
  have key : ∀ (l : List Rc) (a : Rc), (∀ r ∈ l, Ck r) → Ck a → Ck (l.foldl cov a) := by
    intro l
    induction l with
    | nil => intro a _ h; exact h
    | cons r l ih => intro a hk ha; exact ih _ (fun x hx => hk x (by simp [hx])) (cov_ck ha (hk r (by simp)))
  cases l with
  | nil => exact absurd rfl hn
  | cons r l =>
    show Ck (l.foldl cov (cov rz r))
    have k := hk r (by simp)
    rw [cov_rz, pln_full k.emp]
    exact key l r (fun x hx => hk x (by simp [hx])) k
theorem cvl_pt {l : List Rc} (hk : ∀ r ∈ l, Ck r) {x y : Int} (h : pt l x y = true) : has (cvl l) x y = true := by
  have key : ∀ (l : List Rc) (a : Rc), (∀ r ∈ l, Ck r) → (a = rz ∨ Ck a) → (has a x y = true ∨ pt l x y = true) → has (l.foldl cov a) x y = true := by
    intro l
    induction l with
    | nil =>
      intro a _ _ h
      rcases h with h | h
      · exact h
      · cases h
    | cons r l ih =>
      intro a hk ha h
      have k := hk r (by simp)
      have ma := may_of ha
      have mr := may_of (.inr k : r = rz ∨ Ck r)
      refine ih _ (fun x hx => hk x (by simp [hx])) (cov_may ma mr) ?_
      rw [pt_cons, Bool.or_eq_true] at h
      rcases h with h | h | h
      · exact .inl (has_cov ma mr (.inl h))
      · exact .inl (has_cov ma mr (.inr h))
      · exact .inr h
  exact key l rz hk (.inl rfl) (.inr h)
theorem ofl_ck {r : Rc} (k : Ck r) : ofl r = [r] := by
  rw [ofl, bnd_ck k, if_neg (by rw [k.emp]; decide)]
theorem mk_ne {m : List Rc} {r : Rc} (h : 40 < (mk or m (ofl r)).length) : mk or m (ofl r) ≠ [] := fun e => by rw [e] at h; exact absurd h (by decide)
theorem dor {m : List Rc} (h : Reg m) (r : Rc) : Reg (mk or m (ofl r)) ∧ ∀ x y, pt (mk or m (ofl r)) x y = (pt m x y || pt (ofl r) x y) := by
  obtain ⟨h1, h2, _⟩ := mk_all (f := or) (a := m) (b := ofl r) rfl h.ck (ofl_reg r).ck
  exact ⟨h1, h2⟩
theorem dput_reg {m : List Rc} (h : Reg m) (r : Rc) : Reg (dput m r) := by
  rw [dput]
  split
  · rename_i hl
    exact reg_one (cvl_full (dor h r).1.ck (mk_ne hl))
  · exact (dor h r).1
theorem dput_len (m : List Rc) (r : Rc) : (dput m r).length ≤ 40 := by
  rw [dput]
  split
  · exact (by decide : 1 ≤ 40)
  · omega
theorem dput_pt {m : List Rc} (h : Reg m) {r : Rc} {x y : Int} (hp : pt m x y = true ∨ pt (ofl r) x y = true) : pt (dput m r) x y = true := by
  have e : pt (mk or m (ofl r)) x y = true := by rw [(dor h r).2, Bool.or_eq_true]; exact hp
  rw [dput]
  split
  · rw [pt_cons, cvl_pt (dor h r).1.ck e, Bool.true_or]
  · exact e
theorem dfl_all {l : List Rc} : Reg (dfl l) ∧ (dfl l).length ≤ 40 := by
  have key : ∀ (l m : List Rc), Reg m → m.length ≤ 40 → Reg (l.foldl dput m) ∧ (l.foldl dput m).length ≤ 40 := by
    intro l
    induction l with
    | nil => intro m h h'; exact ⟨h, h'⟩
    | cons r l ih => intro m h _; exact ih _ (dput_reg h r) (dput_len m r)
  exact key l [] reg_nil (by decide)
theorem dfl_reg (l : List Rc) : Reg (dfl l) := dfl_all.1
theorem dfl_len (l : List Rc) : (dfl l).length ≤ 40 := dfl_all.2
theorem dfl_pts {l : List Rc} {r : Rc} (hr : r ∈ l) {x y : Int} (hp : pt (ofl r) x y = true) : pt (dfl l) x y = true := by
  have key : ∀ (l m : List Rc), Reg m → (pt m x y = true ∨ r ∈ l) → pt (l.foldl dput m) x y = true := by
    intro l
    induction l with
    | nil =>
      intro m h h'
      rcases h' with h' | h'
      · exact h'
      · cases h'
    | cons a l ih =>
      intro m h h'
      refine ih _ (dput_reg h a) ?_
      rcases h' with h' | h'
      · exact .inl (dput_pt h (.inl h'))
      · rcases List.mem_cons.1 h' with rfl | h'
        · exact .inl (dput_pt h (.inr hp))
        · exact .inr h'
  exact key l [] reg_nil (.inr hr)

/-- A point of the field is in what is left of a rectangle just if it is in it. -/
theorem ofl_has {r : Rc} (ok : r.Ok) {x y : Int} (hx : -16777216 ≤ x ∧ x < 16777216) (hy : -16777216 ≤ y ∧ y < 16777216) : pt (ofl r) x y = has r x y := by
  obtain ⟨⟨_, o1⟩, ⟨_, o2⟩, ⟨_, o3⟩, ⟨_, o4⟩⟩ := ok
  have e : has (bnd r) x y = has r x y := by
    cases he : emp r
    · rw [bnd, cut, if_neg (by rw [he]; decide)]
      have e1 : en fld.x fld.w = 16777216 := by decide
      have e2 : en fld.y fld.h = 16777216 := by decide
      have e3 : fld.x = -16777216 := rfl
      have e4 : fld.y = -16777216 := rfl
      obtain ⟨s1, s2⟩ := sizes he
      rw [e1, e2, e3, e4, oft, Bool.eq_iff_iff, has_iff]
      unfold en
      split <;> split <;> split <;> rw [has_iff] <;> simp only [rz] <;> omega
    · rw [bnd, cut, if_pos (.inl he), has_rz, has_emp he]
  rw [← e, ofl]
  split
  · rename_i h; rw [has_emp h]; rfl
  · rw [pt_cons, pt_nil, Bool.or_false]

/-- Where lines of one lie within the other. -/
def two (a b : Rc) : List (Int × Int) :=
  (if a.y < b.y ∧ b.y < a.y + a.h then [(a.x, b.y)] else []) ++ ((if a.y < b.y + b.h ∧ b.y + b.h < a.y + a.h then [(a.x, b.y + b.h)] else []) ++
    ((if b.y < a.y ∧ a.y < b.y + b.h then [(b.x, a.y)] else []) ++ (if b.y < a.y + a.h ∧ a.y + a.h < b.y + b.h then [(b.x, a.y + a.h)] else [])))
theorem ifl {p : Prop} [Decidable p] (u : Int × Int) : (if p then [u] else []).length = if p then 1 else 0 := by split <;> rfl
theorem two_len (a b : Rc) : (two a b).length ≤ 2 := by
  rw [two, List.length_append, List.length_append, List.length_append, ifl, ifl, ifl, ifl]
  split <;> split <;> split <;> split <;> omega
theorem two_aft {a b : Rc} (ka : Ck a) (kb : Ck b) (h : Aft a b) : two a b = [] := by
  have := ka.h
  have := kb.h
  rw [two, if_neg, if_neg, if_neg, if_neg]
  · rfl
  all_goals (rcases h with ⟨_, _, _⟩ | _ <;> omega)
theorem two_mem {a b : Rc} {e : Int} (h : a.y < e ∧ e < a.y + a.h) (he : e = b.y ∨ e = b.y + b.h) : (a.x, e) ∈ two a b ∧ (a.x, e) ∈ two b a := by
  unfold two
  simp only [List.mem_append]
  rcases he with rfl | rfl
  · rw [if_pos h]
    simp
  · exact ⟨.inr (.inl (by rw [if_pos h]; simp)), .inr (.inr (.inr (by rw [if_pos h]; simp)))⟩
def cnd : List Rc → List (Int × Int)
  | [] => []
  | a :: t => (a.x, a.y) :: (t.flatMap (two a) ++ cnd t)
theorem flat2 (a : Rc) (t : List Rc) : (t.flatMap (two a)).length ≤ 2 * t.length := by
  induction t with
  | nil => exact Nat.le_refl _
  | cons b t ih =>
    have := two_len a b
    rw [List.flatMap_cons, List.length_append, List.length_cons]
    omega
theorem cnd_len : ∀ l : List Rc, (cnd l).length ≤ l.length * l.length
  | [] => Nat.le_refl _
  | a :: t => by
    have h1 := cnd_len t
    have h2 := flat2 a t
    rw [cnd, List.length_cons, List.length_append, List.length_cons, Nat.add_mul, Nat.mul_add]
    omega
theorem cnd_bands : ∀ {l : List Rc}, (∀ r ∈ l, Ck r) → l.Pairwise Aft → (cnd l).length = l.length
  | [], _, _ => rfl
  | a :: t, hk, hp => by
    rw [List.pairwise_cons] at hp
    have e : t.flatMap (two a) = [] := by
      rw [List.flatMap_eq_nil_iff]
      exact fun b hb => two_aft (hk a (by simp)) (hk b (by simp [hb])) (hp.1 b hb)
    rw [cnd, e, List.nil_append, List.length_cons, List.length_cons, cnd_bands (fun r hr => hk r (by simp [hr])) hp.2]
theorem cnd_top {l : List Rc} {a : Rc} (h : a ∈ l) : (a.x, a.y) ∈ cnd l := by
  induction l with
  | nil => cases h
  | cons c t ih =>
    rcases List.mem_cons.1 h with rfl | h
    · rw [cnd]; exact List.mem_cons_self ..
    · rw [cnd]; exact List.mem_cons_of_mem _ (List.mem_append.2 (.inr (ih h)))
theorem cnd_in {l : List Rc} {a b : Rc} (ha : a ∈ l) (hb : b ∈ l) {e : Int} (h : a.y < e ∧ e < a.y + a.h) (he : e = b.y ∨ e = b.y + b.h) : (a.x, e) ∈ cnd l := by
  induction l with
  | nil => cases ha
  | cons c t ih =>
    rw [cnd]
    refine List.mem_cons_of_mem _ (List.mem_append.2 ?_)
    rcases List.mem_cons.1 ha with e1 | ha'
    · rcases List.mem_cons.1 hb with e2 | hb'
      · subst e1 e2; omega
      · subst e1; exact .inl (List.mem_flatMap.2 ⟨b, hb', (two_mem h he).1⟩)
    · rcases List.mem_cons.1 hb with e2 | hb'
      · subst e2; exact .inl (List.mem_flatMap.2 ⟨a, ha', (two_mem h he).2⟩)
      · exact .inr (ih ha' hb')

/-- How many rectangles the region of some may have. -/
theorem reg_cnt {l m : List Rc} (hm : Reg m) (h : ∀ x y, pt m x y = pt l x y) : m.length ≤ (cnd l).length := by
  have h1 : (m.map fun r => (r.x, r.y)).Nodup := by
    rw [List.nodup_iff_pairwise_ne, List.pairwise_map]
    refine hm.aft.imp_of_mem fun {a b} ha hb hr e => ?_
    have k1 := (hm.ck a ha).w
    have k2 := (hm.ck a ha).h
    simp only [Prod.mk.injEq] at e
    rcases hr with ⟨_, _, _⟩ | _ <;> omega
  have h2 := nodup_len (m := cnd l) h1 fun p hp => by
    obtain ⟨r, hr, rfl⟩ := List.mem_map.1 hp
    have k := hm.mark hr
    have kw := k.w
    have i1 := k.ins r.x (by omega) (by omega)
    have i2 := k.left
    rw [h] at i1 i2
    obtain ⟨a, ha, h3⟩ := pt_iff.1 i1
    have h4 := pt_no.1 i2 a ha
    rw [has_iff] at h3
    have ex : a.x = r.x := by
      rcases Int.lt_or_le a.x r.x with h5 | h5
      · rw [← Bool.not_eq_true, has_iff] at h4
        omega
      · omega
    rw [← ex]
    rcases Int.lt_or_le a.y r.y with h5 | h5
    · obtain ⟨x, hx⟩ := k.top
      rw [h, h] at hx
      have hb : ∃ b ∈ l, r.y = b.y ∨ r.y = b.y + b.h := by
        cases e1 : pt l x (r.y - 1)
        · cases e2 : pt l x r.y
          · exact absurd (e1.trans e2.symm) hx
          · obtain ⟨b, hb, h6⟩ := pt_iff.1 e2
            have h7 := pt_no.1 e1 b hb
            rw [← Bool.not_eq_true, has_iff] at h7
            rw [has_iff] at h6
            exact ⟨b, hb, by omega⟩
        · cases e2 : pt l x r.y
          · obtain ⟨b, hb, h6⟩ := pt_iff.1 e1
            have h7 := pt_no.1 e2 b hb
            rw [← Bool.not_eq_true, has_iff] at h7
            rw [has_iff] at h6
            exact ⟨b, hb, by omega⟩
          · exact absurd (e1.trans e2.symm) hx
      obtain ⟨b, hb, he⟩ := hb
      exact cnd_in ha hb ⟨h5, by omega⟩ he
    · have ey : a.y = r.y := by omega
      rw [← ey]
      exact cnd_top ha
  rw [List.length_map] at h2
  exact h2

theorem cnd_snoc_len (l : List Rc) (r : Rc) : (cnd (l ++ [r])).length ≤ (cnd l).length + 2 * l.length + 1 := by
  induction l with
  | nil => exact Nat.le_refl _
  | cons a t ih =>
    have h := two_len a r
    rw [List.cons_append, cnd, cnd, List.length_cons, List.length_cons, List.length_append, List.length_append, List.flatMap_append, List.length_append, List.length_cons]
    have e : ([r].flatMap (two a)).length = (two a r).length := by simp
    omega
/-- A region of 40, and one more: how many there may be. -/
theorem dor_len {m : List Rc} (h : Reg m) (hl : m.length ≤ 40) (r : Rc) : (mk or m (ofl r)).length ≤ 121 := by
  have hd := dor h r
  have h1 := reg_cnt (l := m ++ ofl r) hd.1 fun x y => by rw [hd.2, pt_append]
  have h2 := cnd_bands h.ck h.aft
  have e : ofl r = [] ∨ ofl r = [bnd r] := by
    rw [ofl]
    split
    · exact .inl rfl
    · exact .inr rfl
  rcases e with e | e
  · rw [e] at h1 ⊢
    rw [List.append_nil] at h1; omega
  · have h3 := cnd_snoc_len m (bnd r)
    rw [e] at h1 ⊢
    omega

/-- Where the region never has too many, its points are all of theirs. -/
theorem dfl_just {l : List Rc} (h : ∀ j, (cnd ((l.take j).flatMap ofl)).length ≤ 40) (x y : Int) : pt (dfl l) x y = pt (l.flatMap ofl) x y := by
  have key : ∀ j, j ≤ l.length → ∀ x y, pt (dfl (l.take j)) x y = pt ((l.take j).flatMap ofl) x y := by
    intro j
    induction j with
    | zero => intro _ x y; rfl
    | succ j ih =>
      intro hj x y
      have hr : l[j]? = some l[j] := List.getElem?_eq_getElem (by omega)
      have ih' := ih (by omega)
      have e : (l.take (j + 1)).flatMap ofl = (l.take j).flatMap ofl ++ ofl l[j] := by
        rw [List.take_add_one, hr, List.flatMap_append, Option.toList_some, List.flatMap_cons, List.flatMap_nil, List.append_nil]
      have hd := dor (dfl_reg (l.take j)) l[j]
      have hl := reg_cnt (l := (l.take (j + 1)).flatMap ofl) hd.1 fun x y => by rw [hd.2, e, pt_append, ih']
      rw [dfl_snoc hr, dput, if_neg (by have := h (j + 1); omega), hd.2, e, pt_append, ih']
  have := key l.length (Nat.le_refl _) x y
  rwa [List.take_length] at this
theorem ofl_flat_len (l : List Rc) : (l.flatMap ofl).length ≤ l.length := by
  induction l with
  | nil => exact Nat.le_refl _
  | cons r l ih =>
    have := ofl_length r
    rw [List.flatMap_cons, List.length_append, List.length_cons]
    omega
/-- Few. -/
theorem dfl_few {l : List Rc} (h : l.length ≤ 6) (x y : Int) : pt (dfl l) x y = pt (l.flatMap ofl) x y := dfl_just (fun j => by
  have h1 := cnd_len ((l.take j).flatMap ofl)
  have h2 := ofl_flat_len (l.take j)
  rw [List.length_take] at h2
  have h3 : ((l.take j).flatMap ofl).length ≤ 6 := by omega
  have h4 := Nat.mul_le_mul h3 h3
  omega) x y
theorem ofl_flat {l : List Rc} (hk : ∀ r ∈ l, Ck r) : l.flatMap ofl = l := by
  induction l with
  | nil => rfl
  | cons r l ih => rw [List.flatMap_cons, ofl_ck (hk r (by simp)), ih fun a ha => hk a (by simp [ha])]; rfl
/-- A region, added anew, is itself. -/
theorem dfl_again {l : List Rc} (h : Reg l) (hl : l.length ≤ 40) : dfl l = l := by
  refine reg_eq (dfl_reg l) h fun x y => ?_
  rw [dfl_just (fun j => ?_), ofl_flat h.ck]
  have hk : ∀ r ∈ l.take j, Ck r := fun r hr => h.ck r (List.mem_of_mem_take hr)
  rw [ofl_flat hk, cnd_bands hk (h.aft.sublist (List.take_sublist j l)), List.length_take]
  omega
/-- What is there is added to no effect. -/
theorem dput_there {m : List Rc} (h : Reg m) (hl : m.length ≤ 40) {r : Rc} (hr : ∀ x y, pt (ofl r) x y = true → pt m x y = true) : dput m r = m := by
  have e : mk or m (ofl r) = m := reg_eq (dor h r).1 h fun x y => by
    rw [(dor h r).2]
    cases e1 : pt m x y
    · cases e2 : pt (ofl r) x y
      · rfl
      · rw [hr x y e2] at e1; cases e1
    · rfl
  rw [dput, e, if_neg (by omega)]
/-- Few: the order plays no part. -/
theorem dfl_turn {l : List Rc} (h : l.length ≤ 6) (k : Nat) : dfl (l.drop k ++ l.take k) = dfl l := by
  refine reg_eq (dfl_reg _) (dfl_reg _) fun x y => ?_
  rw [dfl_few (by rw [List.length_append, List.length_drop, List.length_take]; omega), dfl_few h, List.flatMap_append, pt_append, Bool.or_comm, ← pt_append, ← List.flatMap_append, List.take_append_drop]
theorem dput_few {l : List Rc} (h : l.length ≤ 6) {r : Rc} (hr : r ∈ l) : dput (dfl l) r = dfl l := dput_there (dfl_reg l) (dfl_len l) fun x y hp => by
  rw [dfl_few h, pt_iff]
  obtain ⟨a, ha, h'⟩ := pt_iff.1 hp
  exact ⟨a, List.mem_flatMap.2 ⟨r, hr, ha⟩, h'⟩

/-- Rectangles in a line, the first one longer. -/
def lne (p : Int) (k : Nat) : List Rc := ⟨0, 0, p, 1⟩ :: (List.range k).map fun (i : Nat) => ⟨p + 1 + 2 * (i : Int), 0, 1, 1⟩
theorem lne_snoc (p : Int) (k : Nat) : lne p (k + 1) = lne p k ++ [⟨p + 1 + 2 * (k : Int), 0, 1, 1⟩] := by
  rw [lne, lne, List.range_succ, List.map_append]
  rfl
theorem lne_len (p : Int) (k : Nat) : (lne p k).length = k + 1 := by simp [lne]
theorem lne_mem {p : Int} {k : Nat} {r : Rc} (hp : 1 ≤ p) (h : r ∈ lne p k) : r.y = 0 ∧ r.h = 1 ∧ 1 ≤ r.w ∧ 0 ≤ r.x ∧ r.x + r.w ≤ p + 2 * (k : Int) := by
  rcases List.mem_cons.1 h with rfl | h
  · exact ⟨rfl, rfl, hp, Int.le_refl _, by show 0 + p ≤ _; omega⟩
  · obtain ⟨i, hi, rfl⟩ := List.mem_map.1 h
    have := List.mem_range.1 hi
    refine ⟨rfl, rfl, Int.le_refl _, ?_, ?_⟩
    · show 0 ≤ p + 1 + 2 * (i : Int); omega
    · show p + 1 + 2 * (i : Int) + 1 ≤ _; omega
theorem lne_reg {p : Int} (hp : 1 ≤ p) {k : Nat} (hk : p + 2 * (k : Int) ≤ 1000) : Reg (lne p k) := by
  have hck : ∀ r ∈ lne p k, Ck r := fun r hr => by
    obtain ⟨h1, h2, h3, h4, h5⟩ := lne_mem hp hr
    exact ⟨h3, by omega, by omega, by omega, by omega, by omega⟩
  refine ⟨hck, ?_, fun r hr => ⟨r.x, ?_⟩⟩
  · clear hck hk
    induction k with
    | zero => simp [lne]
    | succ k ih =>
      rw [lne_snoc, List.pairwise_append]
      refine ⟨ih, by simp, fun a ha b hb => ?_⟩
      obtain ⟨h1, h2, h3, h4, h5⟩ := lne_mem hp ha
      rw [List.mem_singleton] at hb
      subst hb
      refine .inl ⟨h1.symm, h2.symm, ?_⟩
      show a.x + a.w < p + 1 + 2 * (k : Int)
      omega
  · obtain ⟨h1, h2, h3, h4, h5⟩ := lne_mem hp hr
    have e1 : pt (lne p k) r.x r.y = true := pt_iff.2 ⟨r, hr, has_iff.2 ⟨h3, by omega, by omega, by omega, by omega, by omega⟩⟩
    have e2 : pt (lne p k) r.x (r.y - 1) = false := pt_no.2 fun a ha => has_no (by
      obtain ⟨g1, g2, _⟩ := lne_mem hp ha
      omega)
    rw [e1, e2]
    decide
theorem lne_add {p : Int} (hp : 1 ≤ p) {k : Nat} (hk : p + 2 * (k : Int) + 2 ≤ 1000) : mk or (lne p k) (ofl ⟨p + 1 + 2 * (k : Int), 0, 1, 1⟩) = lne p (k + 1) := by
  have kr : Ck ⟨p + 1 + 2 * (k : Int), 0, 1, 1⟩ := by constructor <;> dsimp only <;> omega
  have hd := dor (lne_reg hp (k := k) (by omega)) ⟨p + 1 + 2 * (k : Int), 0, 1, 1⟩
  refine reg_eq hd.1 (lne_reg hp (by omega)) fun x y => ?_
  rw [hd.2, ofl_ck kr, lne_snoc, pt_append]
theorem lne_cov {p : Int} (hp : 1 ≤ p) {k : Nat} (hk : p + 2 * (k : Int) ≤ 1000) : cvl (lne p k) = ⟨0, 0, p + 2 * (k : Int), 1⟩ := by
  induction k with
  | zero =>
    show cov rz ⟨0, 0, p, 1⟩ = _
    have kc : Ck ⟨0, 0, p, 1⟩ := by constructor <;> dsimp only <;> omega
    rw [cov_rz, pln_full kc.emp]
    simp
  | succ k ih =>
    rw [lne_snoc, cvl, List.foldl_append]
    show cov (cvl (lne p k)) _ = _
    rw [ih (by omega)]
    have k1 : Ck ⟨0, 0, p + 2 * (k : Int), 1⟩ := by constructor <;> dsimp only <;> omega
    have k2 : Ck ⟨p + 1 + 2 * (k : Int), 0, 1, 1⟩ := by constructor <;> dsimp only <;> omega
    rw [cov_sum k1 k2]
    simp only [Rc.mk.injEq]
    refine ⟨by omega, by decide, by omega, by decide⟩
/-- So many in a line. -/
def cmb (k : Nat) : List Rc := (List.range k).map fun (i : Nat) => ⟨2 * (i : Int), 0, 1, 1⟩
theorem cmb_snoc (k : Nat) : cmb (k + 1) = cmb k ++ [⟨2 * (k : Int), 0, 1, 1⟩] := by
  rw [cmb, cmb, List.range_succ, List.map_append]
  rfl
theorem cmb_len (k : Nat) : (cmb k).length = k := by simp [cmb]
theorem cmb_lne (k : Nat) : cmb (k + 1) = lne 1 k := by
  induction k with
  | zero => rfl
  | succ k ih =>
    rw [cmb_snoc, ih, lne_snoc, show (2 * ((k + 1 : Nat) : Int)) = 1 + 1 + 2 * (k : Int) by omega]
theorem dfl_cmb {k : Nat} (hk : k ≤ 40) : dfl (cmb k) = cmb k := by
  induction k with
  | zero => rfl
  | succ k ih =>
    rw [cmb_snoc, dfl_push, ih (by omega), ← cmb_snoc, dput]
    cases k with
    | zero =>
      have kc : Ck ⟨2 * ((0 : Nat) : Int), 0, 1, 1⟩ := by constructor <;> dsimp only <;> omega
      have hd := dor reg_nil ⟨2 * ((0 : Nat) : Int), 0, 1, 1⟩
      have e : mk or (cmb 0) (ofl ⟨2 * ((0 : Nat) : Int), 0, 1, 1⟩) = cmb 1 := reg_eq hd.1 (by rw [cmb_lne]; exact lne_reg (by decide) (by decide)) fun x y => by
        show pt (mk or [] _) x y = _
        rw [hd.2, ofl_ck kc]
        rfl
      rw [e, if_neg (by decide)]
    | succ k =>
      have e := lne_add (p := 1) (by decide) (k := k) (by omega)
      rw [show (1 + 1 + 2 * (k : Int)) = 2 * ((k + 1 : Nat) : Int) by omega] at e
      rw [cmb_lne, e, ← cmb_lne, if_neg (by rw [cmb_len]; omega)]
theorem dfl_many {k : Nat} (hk : k ≤ 30) : dfl (cmb (41 + k)) = lne 81 k := by
  induction k with
  | zero =>
    have e := lne_add (p := 1) (by decide) (k := 39) (by decide)
    rw [show 41 + 0 = 40 + 1 from rfl, cmb_snoc, dfl_push, dfl_cmb (by decide), dput, cmb_lne, show (2 * ((40 : Nat) : Int)) = 1 + 1 + 2 * ((39 : Nat) : Int) from rfl, e, if_pos (by rw [lne_len]; decide), lne_cov (by decide) (by decide)]
    rfl
  | succ k ih =>
    have e := lne_add (p := 81) (by decide) (k := k) (by omega)
    rw [show (81 + 1 + 2 * (k : Int)) = 2 * ((41 + k : Nat) : Int) by omega] at e
    rw [← Nat.add_assoc, cmb_snoc, dfl_push, ih (by omega), dput, e]
    rw [if_neg (by rw [lne_len]; omega)]
end Go.Proofs.YtmiapccngeafkaaDoor

/- Repaint: what has changed between two lists of views, and why its part, painted anew, is the whole. Nothing of the program. -/
namespace Go.Proofs.YtmiapccngeafkaaDoor
open Go Go.RowKit

/-- A view's rectangle. -/
def vrc (y : List Int) : Rc := ⟨nm5 2 y, nm5 3 y, nm5 4 y, nm5 5 y⟩
/-- A damage of a view. -/
def spt (y : List Int) (r : Rc) : Rc := if dck (vrc y) = false ∨ emp (bnd r) = true then rz else cut (sh (bnd r) (nm5 2 y) (nm5 3 y)) (vrc y)
/-- What has changed at one place. -/
def chp (o v : Option (List Int)) (D : List (Int × List Rc)) : List Rc := match o, v with
  | some a, some b => if a = b then D.flatMap fun d => if d.1 = nm5 0 b then d.2.map (spt b) else [] else [vrc a, vrc b]
  | some a, none => [vrc a]
  | none, some b => [vrc b]
  | none, none => []
/-- What has changed at the first k places. -/
def chN (o v : List (List Int)) (D : List (Int × List Rc)) (k : Nat) : List Rc := (List.range k).flatMap fun i => chp o[i]? v[i]? D
def chl (o v : List (List Int)) (D : List (Int × List Rc)) : List Rc := chN o v D (max o.length v.length)
theorem chN_zero (o v : List (List Int)) (D : List (Int × List Rc)) : chN o v D 0 = [] := rfl
theorem chN_succ (o v : List (List Int)) (D : List (Int × List Rc)) (k : Nat) : chN o v D (k + 1) = chN o v D k ++ chp o[k]? v[k]? D := by
  rw [chN, List.range_succ, List.flatMap_append, List.flatMap_singleton]
  rfl
/-- A rectangle added to what is held to few is added to all. -/
theorem dput_dfl (l : List Rc) (r : Rc) : dput (dfl (dfl l)) r = dfl (l ++ [r]) := by
  rw [dfl_again (dfl_reg l) (dfl_len l), dfl_push]
theorem dput_rz {m : List Rc} (h : Reg m) (hl : m.length ≤ 40) : dput m rz = m := dput_there h hl fun x y hp => by
  rw [show ofl rz = [] by decide] at hp
  cases hp
theorem dfl_rz (l : List Rc) : dfl (l ++ [rz]) = dfl l := by rw [dfl_push, dput_rz (dfl_reg l) (dfl_len l)]
theorem dfl_app_rz (l m : List Rc) (h : ∀ r ∈ m, r = rz) : dfl (l ++ m) = dfl l := by
  induction m generalizing l with
  | nil => rw [List.append_nil]
  | cons r m ih =>
    rw [show l ++ r :: m = (l ++ [r]) ++ m by simp, ih _ fun a ha => h a (by simp [ha]), h r (by simp), dfl_rz]

/-! Either way round, the same. -/
theorem chp_mem {o v : Option (List Int)} {r : Rc} : r ∈ chp o v [] ↔ o ≠ v ∧ ((∃ a, o = some a ∧ r = vrc a) ∨ ∃ b, v = some b ∧ r = vrc b) := by
  cases o with
  | none => cases v <;> simp [chp]
  | some a =>
    cases v with
    | none => simp [chp]
    | some b =>
      by_cases e : a = b
      · simp [chp, e]
      · simp [chp, e]
theorem chp_turn (o v : Option (List Int)) (r : Rc) : r ∈ chp o v [] ↔ r ∈ chp v o [] := by
  rw [chp_mem, chp_mem]
  constructor
  · rintro ⟨h, h' | h'⟩
    · exact ⟨h.symm, .inr h'⟩
    · exact ⟨h.symm, .inl h'⟩
  · rintro ⟨h, h' | h'⟩
    · exact ⟨h.symm, .inr h'⟩
    · exact ⟨h.symm, .inl h'⟩
theorem chl_mem {o v : List (List Int)} {D : List (Int × List Rc)} {r : Rc} : r ∈ chl o v D ↔ ∃ i : Nat, r ∈ chp o[i]? v[i]? D := by
  rw [chl, chN, List.mem_flatMap]
  constructor
  · rintro ⟨i, _, h⟩
    exact ⟨i, h⟩
  · rintro ⟨i, h⟩
    refine ⟨i, List.mem_range.2 ?_, h⟩
    apply Decidable.byContradiction
    intro hi
    rw [List.getElem?_eq_none (by omega), List.getElem?_eq_none (by omega)] at h
    cases h
theorem chl_turn (o v : List (List Int)) (r : Rc) : r ∈ chl o v [] ↔ r ∈ chl v o [] := by
  rw [chl_mem, chl_mem]
  exact ⟨fun ⟨i, h⟩ => ⟨i, (chp_turn _ _ r).1 h⟩, fun ⟨i, h⟩ => ⟨i, (chp_turn _ _ r).1 h⟩⟩
theorem chp_len (o v : Option (List Int)) : (chp o v []).length ≤ o.toList.length + v.toList.length := by
  cases o with
  | none => cases v <;> simp [chp]
  | some a =>
    cases v with
    | none => simp [chp]
    | some b =>
      by_cases e : a = b
      · simp [chp, e]
      · simp [chp, e]
theorem chN_len (o v : List (List Int)) (k : Nat) : (chN o v [] k).length ≤ (o.take k).length + (v.take k).length := by
  induction k with
  | zero => simp [chN]
  | succ k ih =>
    have h := chp_len o[k]? v[k]?
    rw [chN_succ, List.length_append, List.take_add_one, List.take_add_one, List.length_append, List.length_append]
    omega
theorem chl_len (o v : List (List Int)) : (chl o v []).length ≤ o.length + v.length := by
  have h := chN_len o v (max o.length v.length)
  rw [List.take_of_length_le (by omega), List.take_of_length_le (by omega)] at h
  exact h
theorem dfl_mem {l m : List Rc} (hl : l.length ≤ 6) (hm : m.length ≤ 6) (h : ∀ r, r ∈ l ↔ r ∈ m) : dfl l = dfl m := by
  refine reg_eq (dfl_reg _) (dfl_reg _) fun x y => ?_
  rw [dfl_few hl, dfl_few hm, Bool.eq_iff_iff, pt_iff, pt_iff]
  constructor
  · rintro ⟨a, ha, h'⟩
    obtain ⟨r, hr, ha⟩ := List.mem_flatMap.1 ha
    exact ⟨a, List.mem_flatMap.2 ⟨r, (h r).1 hr, ha⟩, h'⟩
  · rintro ⟨a, ha, h'⟩
    obtain ⟨r, hr, ha⟩ := List.mem_flatMap.1 ha
    exact ⟨a, List.mem_flatMap.2 ⟨r, (h r).2 hr, ha⟩, h'⟩
/-- Few views: either way round the same has changed. -/
theorem ch_turn {o v : List (List Int)} (h : o.length + v.length ≤ 6) : dfl (chl o v []) = dfl (chl v o []) := by
  have h1 := chl_len o v
  have h2 := chl_len v o
  exact dfl_mem (by omega) (by omega) (chl_turn o v)
/-- Of lists that are the same nothing but what is dirty. -/
theorem ch_same {o : List (List Int)} {D : List (Int × List Rc)} (h : ∀ a ∈ o, ∀ d ∈ D, d.1 ≠ nm5 0 a) : chl o o D = [] := by
  apply List.eq_nil_iff_forall_not_mem.2
  intro r hr
  obtain ⟨i, hi⟩ := chl_mem.1 hr
  cases e : o[i]? with
  | none => rw [e] at hi; cases hi
  | some a =>
    rw [e, chp, if_pos rfl] at hi
    obtain ⟨d, hd, hr⟩ := List.mem_flatMap.1 hi
    rw [if_neg (h a (List.mem_of_getElem? e) d hd)] at hr
    cases hr

/-! Damage. -/
theorem spt_full {y : List Int} {r : Rc} (k : Ck (vrc y)) (hb : emp (bnd r) = false) : spt y r = cut (sh (bnd r) (nm5 2 y) (nm5 3 y)) (vrc y) := by
  rw [spt, if_neg]
  rw [dck_iff.2 k, hb]
  decide
theorem spt_no {y : List Int} {r : Rc} (h : dck (vrc y) = false ∨ emp (bnd r) = true) : spt y r = rz := by rw [spt, if_pos h]
theorem spt_cut {y : List Int} {r : Rc} (k : Ck (vrc y)) (hb : emp (bnd r) = false) : spt y r = oft (max ((bnd r).x + nm5 2 y) (nm5 2 y)) (max ((bnd r).y + nm5 3 y) (nm5 3 y)) (min ((bnd r).x + nm5 2 y + (bnd r).w) (nm5 2 y + nm5 4 y)) (min ((bnd r).y + nm5 3 y + (bnd r).h) (nm5 3 y + nm5 5 y)) := by
  have kb : Ck (bnd r) := by
    rcases bnd_cases r with h | h
    · rw [hb] at h; cases h
    · exact h
  rw [spt_full k hb, sh_full hb, cut_full (by simp only [emp] at hb ⊢; exact hb) k.emp]
  obtain ⟨k1, k2, k3, k4, k5, k6⟩ := k
  obtain ⟨l1, l2, l3, l4, l5, l6⟩ := kb
  simp only [vrc] at k1 k2 k3 k4 k5 k6
  simp only [vrc]
  rw [en, if_pos (by omega), en, if_pos (by omega), en, if_pos (by omega), en, if_pos (by omega)]
theorem spt_has {y : List Int} {r : Rc} (k : Ck (vrc y)) (u v : Int) : has (spt y r) u v = (has (bnd r) (u - nm5 2 y) (v - nm5 3 y) && has (vrc y) u v) := by
  cases hb : emp (bnd r) with
  | true => rw [spt_no (.inr hb), has_rz, has_emp hb, Bool.false_and]
  | false =>
    rw [spt_cut k hb, Bool.eq_iff_iff, Bool.and_eq_true, has_iff, has_iff, has_iff, oft]
    simp only [emp, Bool.or_eq_false_iff, decide_eq_false_iff_not] at hb
    obtain ⟨k1, k2, k3, k4, k5, k6⟩ := k
    simp only [vrc] at k1 k2 k3 k4 k5 k6 ⊢
    split
    · simp only [rz]; omega
    · dsimp only; omega
theorem spt_ok (y : List Int) (r : Rc) : (spt y r).Ok := by
  by_cases h : dck (vrc y) = false ∨ emp (bnd r) = true
  · rw [spt_no h]; exact rz_ok
  · have h1 : dck (vrc y) = true := by cases e : dck (vrc y) with
      | true => rfl
      | false => exact absurd (.inl e) h
    have h2 : emp (bnd r) = false := by cases e : emp (bnd r) with
      | false => rfl
      | true => exact absurd (.inr e) h
    have k := dck_iff.1 h1
    have kb : Ck (bnd r) := by
      rcases bnd_cases r with h | h
      · rw [h2] at h; cases h
      · exact h
    rw [spt_cut k h2, oft]
    obtain ⟨k1, k2, k3, k4, k5, k6⟩ := k
    obtain ⟨l1, l2, l3, l4, l5, l6⟩ := kb
    simp only [vrc] at k1 k2 k3 k4 k5 k6
    split
    · exact rz_ok
    · exact ⟨by dsimp only; omega, by dsimp only; omega, by dsimp only; omega, by dsimp only; omega⟩
theorem chl_one (y : List Int) (r : Rc) : chl [y] [y] [(nm5 0 y, [r])] = [spt y r] := by
  simp [chl, chN, chp]
end Go.Proofs.YtmiapccngeafkaaDoor

/- Repaint: why the part that has changed, painted anew, is the whole. Nothing of the program but its canvas. -/
namespace Go.Proofs.YtmiapccngeafkaaDoor
open Go Go.RowKit

/-! Points. -/
theorem inC_ck {l : List Rc} (hk : ∀ r ∈ l, Ck r) (x y : Int) : inC l x y = pt l x y := by
  induction l with
  | nil => rfl
  | cons r l ih =>
    rw [pt_cons, ← ih fun a ha => hk a (by simp [ha])]
    simp only [inC, List.any_cons]
    rw [bnd_ck (hk r (by simp))]
/-- A rectangle that was added: its points are in the clip. -/
theorem inC_dfl {l : List Rc} {r : Rc} (hr : r ∈ l) (ok : r.Ok) {u v : Nat} (hu : u < 48) (hv : v < 48) (h : has r u v = true) : inC (dfl l) u v = true := by
  rw [inC_ck (dfl_reg l).ck]
  exact dfl_pts hr (by rw [ofl_has ok (by omega) (by omega)]; exact h)
theorem pto_out {l : List Rc} {I : List Im} {u v : Int} {z : Int} {y : List Int} (h : inC l u v = false) : pto l I u v z y = z := by
  unfold pto
  cases imf (nm5 1 y) I with
  | none => rfl
  | some x =>
    dsimp only
    rw [h, Bool.and_false, Bool.and_false]
    rfl
theorem foldl_out {l : List Rc} {I : List Im} {u v : Int} {V : List (List Int)} {z : Int} (h : inC l u v = false) : V.foldl (pto l I u v) z = z := by
  induction V generalizing z with
  | nil => rfl
  | cons y V ih => rw [List.foldl_cons, pto_out h, ih]
theorem pto_in {l m : List Rc} {I : List Im} {u v : Int} (h : inC l u v = inC m u v) : pto l I u v = pto m I u v := by
  funext z y
  unfold pto
  rw [h]
/-- In the clip a part is as the whole, outside of it nothing is turned. -/
theorem pnc_part {W H : Nat} {back : Int} {l m : List Rc} {V : List (List Int)} {I : List Im} {L M : List Int} (hL : L.length = W * H) (hM : M.length = W * H) {u v : Nat} (hu : u < W) (hv : v < H) (hm : inC m u v = true) : (pnc W back l V I L)[v * W + u]? = if inC l u v then (pnc W back m V I M)[v * W + u]? else L[v * W + u]? := by
  have hi := place_lt hu hv
  have e1 : L[v * W + u]? = some L[v * W + u] := List.getElem?_eq_getElem (by omega)
  have e2 : M[v * W + u]? = some M[v * W + u] := List.getElem?_eq_getElem (by omega)
  rw [pnc_get hu, pnc_get hu, e1, e2, Option.map_some, Option.map_some]
  cases h : inC l u v with
  | false =>
    rw [foldl_out h]
    simp
  | true => rw [pto_in (h.trans hm.symm), hm]; rfl
/-- Two lists that do the same at each place. -/
theorem foldl_same {f : Int → List Int → Int} : ∀ {x y : List (List Int)}, (∀ i : Nat, x[i]? = y[i]? ∨ ((∀ a, x[i]? = some a → ∀ z, f z a = z) ∧ ∀ b, y[i]? = some b → ∀ z, f z b = z)) → ∀ z, x.foldl f z = y.foldl f z
  | [], [], _, _ => rfl
  | [], b :: y, h, z => by
    have h0 := h 0
    simp only [List.getElem?_nil, List.getElem?_cons_zero, reduceCtorEq, false_or, Option.some.injEq, false_implies, implies_true, true_and, forall_eq'] at h0
    rw [List.foldl_cons, h0, ← foldl_same (x := []) (y := y) fun i => by simpa using h (i + 1)]
  | a :: x, [], h, z => by
    have h0 := h 0
    simp only [List.getElem?_nil, List.getElem?_cons_zero, reduceCtorEq, false_or, Option.some.injEq, false_implies, implies_true, and_true, forall_eq'] at h0
    rw [List.foldl_cons, h0, foldl_same (x := x) (y := []) fun i => by simpa using h (i + 1)]
  | a :: x, b :: y, h, z => by
    have h0 := h 0
    simp only [List.getElem?_cons_zero, Option.some.injEq, forall_eq'] at h0
    have h1 : ∀ z, x.foldl f z = y.foldl f z := foldl_same fun i => by simpa using h (i + 1)
    rw [List.foldl_cons, List.foldl_cons, h1]
    rcases h0 with rfl | ⟨ha, hb⟩
    · rfl
    · rw [ha, hb]
/-- Views that have their images' sizes, or less. -/
structure Szd (I : List Im) (y : List Int) : Prop where
  ok : (vrc y).Ok
  sz : ∀ g, imf (nm5 1 y) I = some g → g.w = nm5 4 y ∧ g.h = nm5 5 y
theorem pto_far {l : List Rc} {I : List Im} {u v : Int} {y : List Int} (s : Szd I y) (h : has (vrc y) u v = false) (z : Int) : pto l I u v z y = z := by
  unfold pto
  cases e : imf (nm5 1 y) I with
  | none => rfl
  | some g =>
    obtain ⟨e1, e2⟩ := s.sz g e
    dsimp only
    rw [e1, e2, show (⟨nm5 2 y, nm5 3 y, nm5 4 y, nm5 5 y⟩ : Rc) = vrc y from rfl, h, Bool.false_and, Bool.and_false]
    rfl
/-- The part that has changed, painted anew, is the whole. -/
theorem rp_whole {W H : Nat} (hW : W ≤ 48) (hH : H ≤ 48) {back : Int} {m : List Rc} {x y : List (List Int)} {I : List Im} {L M : List Int} (hx : ∀ a ∈ x, Szd I a) (hy : ∀ a ∈ y, Szd I a) (hL : L.length = W * H) (hM : M.length = W * H) (hm : ∀ u v : Nat, u < W → v < H → inC m u v = true) : pnc W back (dfl (chl x y [])) y I (pnc W back m x I L) = pnc W back m y I M := by
  apply List.ext_getElem?
  intro i
  by_cases hi : i < W * H
  · obtain ⟨u, v, hu, hv, rfl⟩ := place_eq hi
    rw [pnc_part (pnc_length.trans hL) hM hu hv (hm u v hu hv)]
    cases h : inC (dfl (chl x y [])) u v with
    | true => rfl
    | false =>
      have e1 : L[v * W + u]? = some L[v * W + u] := List.getElem?_eq_getElem (by omega)
      have e2 : M[v * W + u]? = some M[v * W + u] := List.getElem?_eq_getElem (by omega)
      rw [if_neg (by decide), pnc_get hu, pnc_get hu, e1, e2, Option.map_some, Option.map_some, hm u v hu hv]
      refine congrArg some (foldl_same (fun i => ?_) back)
      by_cases e : x[i]? = y[i]?
      · exact .inl e
      · refine .inr ⟨fun a ha => ?_, fun b hb => ?_⟩
        · refine pto_far (hx a (List.mem_of_getElem? ha)) (Bool.eq_false_iff.2 fun hh => ?_)
          rw [inC_dfl (chl_mem.2 ⟨i, chp_mem.2 ⟨e, .inl ⟨a, ha, rfl⟩⟩⟩) (hx a (List.mem_of_getElem? ha)).ok (by omega) (by omega) hh] at h
          cases h
        · refine pto_far (hy b (List.mem_of_getElem? hb)) (Bool.eq_false_iff.2 fun hh => ?_)
          rw [inC_dfl (chl_mem.2 ⟨i, chp_mem.2 ⟨e, .inr ⟨b, hb, rfl⟩⟩⟩) (hy b (List.mem_of_getElem? hb)).ok (by omega) (by omega) hh] at h
          cases h
  · rw [List.getElem?_eq_none (by rw [pnc_length, pnc_length]; omega), List.getElem?_eq_none (by rw [pnc_length]; omega)]

/-- Where nothing but the points of a view's image within its damage is another one, the part that has changed is the whole. -/
theorem rp_dirty {W H : Nat} (hW : W ≤ 48) (hH : H ≤ 48) {back : Int} {m : List Rc} {y : List Int} {r : Rc} {I J : List Im} {L M : List Int} (hk : Ck (vrc y)) (sI : ∀ g, imf (nm5 1 y) I = some g → g.w = nm5 4 y ∧ g.h = nm5 5 y) (sJ : ∀ g, imf (nm5 1 y) J = some g → g.w = nm5 4 y ∧ g.h = nm5 5 y)
    (hs : (imf (nm5 1 y) I).isSome = (imf (nm5 1 y) J).isSome)
    (hp : ∀ g g' u v, imf (nm5 1 y) I = some g → imf (nm5 1 y) J = some g' → has (vrc y) u v = true → has (bnd r) (u - nm5 2 y) (v - nm5 3 y) = false → g.l[kk (nm5 2 y) (nm5 3 y) (nm5 4 y) u v]? = g'.l[kk (nm5 2 y) (nm5 3 y) (nm5 4 y) u v]?)
    (hL : L.length = W * H) (hM : M.length = W * H) (hm : ∀ u v : Nat, u < W → v < H → inC m u v = true) : pnc W back (dfl [spt y r]) [y] J (pnc W back m [y] I L) = pnc W back m [y] J M := by
  apply List.ext_getElem?
  intro i
  by_cases hi : i < W * H
  · obtain ⟨u, v, hu, hv, rfl⟩ := place_eq hi
    rw [pnc_part (pnc_length.trans hL) hM hu hv (hm u v hu hv)]
    cases h : inC (dfl [spt y r]) u v with
    | true => rfl
    | false =>
      have e1 : L[v * W + u]? = some L[v * W + u] := List.getElem?_eq_getElem (by omega)
      have e2 : M[v * W + u]? = some M[v * W + u] := List.getElem?_eq_getElem (by omega)
      rw [if_neg (by decide), pnc_get hu, pnc_get hu, e1, e2, Option.map_some, Option.map_some, hm u v hu hv]
      refine congrArg some ?_
      show pto m I u v back y = pto m J u v back y
      cases hh : has (vrc y) u v with
      | false =>
        have far : ∀ K : List Im, (∀ g, imf (nm5 1 y) K = some g → g.w = nm5 4 y ∧ g.h = nm5 5 y) → pto m K u v back y = back := fun K sK => pto_far ⟨hk.ok, sK⟩ hh back
        rw [far I sI, far J sJ]
      | true =>
        have hn : has (bnd r) (u - nm5 2 y) (v - nm5 3 y) = false := Bool.eq_false_iff.2 fun hb => by
          rw [inC_dfl (List.mem_singleton.2 rfl) (spt_ok y r) (by omega) (by omega) (by rw [spt_has hk, hb, hh]; rfl)] at h
          cases h
        unfold pto
        cases eI : imf (nm5 1 y) I with
        | none =>
          rw [eI] at hs
          cases eJ : imf (nm5 1 y) J with
          | none => rfl
          | some g' => rw [eJ] at hs; cases hs
        | some g =>
          rw [eI] at hs
          cases eJ : imf (nm5 1 y) J with
          | none => rw [eJ] at hs; cases hs
          | some g' =>
            obtain ⟨a1, a2⟩ := sI g eI
            obtain ⟨b1, b2⟩ := sJ g' eJ
            dsimp only
            rw [a1, a2, b1, b2]
            unfold gD
            rw [hp g g' u v eI eJ hh hn]
  · rw [List.getElem?_eq_none (by rw [pnc_length, pnc_length]; omega), List.getElem?_eq_none (by rw [pnc_length]; omega)]
/-- The place of a point in six by five. -/
theorem kk_six {x y u v : Int} (hx : x ≤ u ∧ u < x + 6) (hy : y ≤ v ∧ v < y + 5) : kk x y 6 u v < 30 ∧ ((kk x y 6 u v % 6 : Nat) : Int) = u - x ∧ ((kk x y 6 u v / 6 : Nat) : Int) = v - y := by
  rw [kk]
  omega
end Go.Proofs.YtmiapccngeafkaaDoor

/- Two of the program's canvases beside one another. -/
namespace Go.Proofs.YtmiapccngeafkaaDoor
open Go Go.RowKit

variable {w x y : World} {p b q d W H : Nat} {L M : List Int}
/-- One canvas at p (L), another at q (M), both made since w. -/
structure Duo (w x : World) (p b q d W H : Nat) (L M : List Int) : Prop where
  cv : Cv 56 x p b W H L
  dv : Cv 56 x q d W H M
  qb : q ≠ b
  db : d ≠ b
  pd : p ≠ d
  lob : w.heap.size ≤ b
  lod : w.heap.size ≤ d
  bel : Below w.heap.size w x
theorem Duo.on (h : Duo w x p b q d W H L M) (hb : Below x.heap.size x y) : Duo w y p b q d W H L M := ⟨h.cv.on hb, h.dv.on hb, h.qb, h.db, h.pd, h.lob, h.lod, Below.on h.bel hb⟩
/-- The first one is turned. -/
theorem Duo.one (h : Duo w x p b q d W H L M) (hk : Kp [b] x y) {L' : List Int} (hc : Cv 56 y p b W H L') : Duo w y p b q d W H L' M :=
  ⟨hc, h.dv.kept hk (by simpa using h.qb) (by simpa using h.db), h.qb, h.db, h.pd, h.lob, h.lod, bel_kp h.bel hk h.bel.size (fun k hk => by
    simp only [List.mem_cons, List.not_mem_nil, or_false] at hk
    rw [hk]
    exact h.lob)⟩
/-- The second one is turned. -/
theorem Duo.two (h : Duo w x p b q d W H L M) (hk : Kp [d] x y) {M' : List Int} (hc : Cv 56 y q d W H M') : Duo w y p b q d W H L M' :=
  ⟨h.cv.kept hk (by simpa using h.pd) (by simpa using fun e => h.db e.symm), hc, h.qb, h.db, h.pd, h.lob, h.lod, bel_kp h.bel hk h.bel.size (fun k hk => by
    simp only [List.mem_cons, List.not_mem_nil, or_false] at hk
    rw [hk]
    exact h.lod)⟩
/-- Points of a part. -/
theorem atv_part {W H : Nat} (hW : 1 ≤ W ∧ W ≤ 48) (hH : 1 ≤ H ∧ H ≤ 48) {back : Int} {l : List Rc} {V : List (List Int)} {I : List Im} {L : List Int} (hL : L.length = W * H) {u v : Nat} (hu : u < W) (hv : v < H) :
    atv W H (pnc W back l V I L) u v = if inC l u v = true then atv W H (pnc W back [ara W H] V I L) u v else atv W H L u v := by
  have hi := place_lt hu hv
  have h := pnc_part (back := back) (l := l) (m := [ara W H]) (V := V) (I := I) hL hL hu hv (inC_ara hW hH hu hv)
  have e1 : L[v * W + u]? = some L[v * W + u] := List.getElem?_eq_getElem (by omega)
  have hml : v * W + u < (pnc W back [ara W H] V I L).length := by rw [pnc_length]; omega
  have e2 : (pnc W back [ara W H] V I L)[v * W + u]? = some (pnc W back [ara W H] V I L)[v * W + u] := List.getElem?_eq_getElem hml
  cases hq : inC l u v with
  | true =>
    rw [hq, if_pos rfl] at h
    rw [if_pos rfl, atv_at hu hv (h.trans e2), atv_at hu hv e2]
  | false =>
    rw [hq, if_neg (by decide)] at h
    rw [if_neg (by decide), atv_at hu hv (h.trans e1), atv_at hu hv e1]
end Go.Proofs.YtmiapccngeafkaaDoor

/- A row of points of one's own that is written point by point; the law's Words with it. -/
namespace Go.Proofs.YtmiapccngeafkaaDoor
open Go Go.RowKit

/-- n points L in the block g. -/
structure Pw (u : World) (g n c : Nat) (L : List Int) : Prop where
  len : L.length = n
  le : n ≤ c
  max : c ≤ maxLen
  obj : ∃ cur : Array Value, u.heap[g]? = some (.cells cur 22 (0, 0)) ∧ ∀ (k : Nat) z, L[k]? = some z → cur[k]? = some (e32 z)
  col : ∀ z ∈ L, Col z
theorem Pw.lt {u : World} {g n c : Nat} {L : List Int} (h : Pw u g n c L) : g < u.heap.size := by
  obtain ⟨cur, h1, _⟩ := h.obj
  exact (Array.getElem?_eq_some_iff.1 h1).1
theorem Pw.cell {u : World} {g n c : Nat} {L : List Int} (h : Pw u g n c L) {k : Nat} {z : Int} (hk : L[k]? = some z) : u.cell? ⟨g, k, none⟩ = some (.int .u32 z) := by
  obtain ⟨cur, h1, h2⟩ := h.obj
  rw [Lib.cell_of_heap h1 k]
  exact h2 k z hk
theorem Pw.fz {u : World} {g n c : Nat} {L : List Int} (h : Pw u g n c L) (k : Nat) : u.frozen? ⟨g, k, none⟩ = false := by
  obtain ⟨cur, h1, _⟩ := h.obj
  exact Lib.frozen_of_heap h1 k
theorem Pw.rd {u : World} {g n c : Nat} {L : List Int} (h : Pw u g n c L) : RdI .u32 u (some ⟨g, 0, none⟩) n c L :=
  ⟨h.len, h.le, h.max, (fun e => by cases e), fun x hx j hj => by
    cases hx
    have hl := h.len
    rw [Go.WideShapes.add_plain, Nat.zero_add, h.cell (List.getElem?_eq_getElem (by omega)), List.getD_eq_getElem?_getD, List.getElem?_eq_getElem (by omega)]
    rfl, fun z hz => wf_col (h.col z hz)⟩
theorem Pw.kp {u v : World} {g n c : Nat} {L : List Int} (h : Pw u g n c L) {X : List Nat} (hk : Kp X u v) (hg : g ∉ X) : Pw v g n c L := by
  obtain ⟨cur, h1, h2⟩ := h.obj
  exact ⟨h.len, h.le, h.max, ⟨cur, hk.var h1 hg, h2⟩, h.col⟩
theorem Pw.on {u v : World} {g n c : Nat} {L : List Int} (h : Pw u g n c L) (hb : Below u.heap.size u v) : Pw v g n c L := h.kp (kp_of_below hb []) (by simp)
theorem Pw.set {u : World} {g n c : Nat} {L : List Int} (h : Pw u g n c L) (k : Nat) {z : Int} (hz : Col z) : Pw (u.setCell ⟨g, k, none⟩ (.int .u32 z)) g n c (L.set k z) := by
  obtain ⟨cur, h1, h2⟩ := h.obj
  refine ⟨by rw [List.length_set]; exact h.len, h.le, h.max, ⟨_, heap_setCell_same _ g k _ _ _ h1, fun j y hj => ?_⟩, fun y hy => ?_⟩
  · rw [List.getElem?_set] at hj
    rw [Array.getElem?_setIfInBounds]
    by_cases e : k = j
    · subst e
      rw [if_pos rfl] at hj ⊢
      have hc : k < L.length := by
        apply Decidable.byContradiction
        intro hc
        rw [if_neg hc] at hj
        cases hj
      rw [if_pos hc] at hj
      cases hj
      have := h2 k _ (List.getElem?_eq_getElem hc)
      rw [if_pos (Array.getElem?_eq_some_iff.1 this).1]
      rfl
    · rw [if_neg e] at hj ⊢
      exact h2 j y hj
  · rcases List.mem_or_eq_of_mem_set hy with hy | rfl
    · exact h.col y hy
    · exact hz
theorem pw_of_owns {w : World} {base n : Nat} {v : Value} {L : List Int} (h : w.ownsRow base 22 1 v n (L.map e32)) (hz : ∀ z ∈ L, Col z) (hn : 0 < n) : ∃ g c, v = .slice (some ⟨g, 0, none⟩) n c ∧ Pw w g n c L ∧ base ≤ g := by
  have hl : L.length = n := by have := h.1; rw [List.length_map] at this; omega
  rcases h.2 with ⟨rfl, h0⟩ | ⟨g, cap, cur, rfl, hb, hg, hnc, hm, hcs, htake⟩
  · omega
  · refine ⟨g, cap, rfl, ⟨hl, hnc, hm, ⟨cur, hg, fun k z hk => ?_⟩, hz⟩, hb⟩
    have hkl := (List.getElem?_eq_some_iff.1 hk).1
    have : (L.map e32)[k]? = some (e32 z) := by rw [List.getElem?_map, hk]; rfl
    rw [← htake, List.getElem?_take] at this
    split at this
    · rwa [Array.getElem?_toList] at this
    · cases this
theorem RdI.takeN {k : IntKind} {w : World} {a : Option Addr} {n c : Nat} {l : List Int} (h : RdI k w a n c l) {m : Nat} (hm : m ≤ n) : RdI k w a m c (l.take m) :=
  ⟨by rw [List.length_take, h.len]; omega, Nat.le_trans hm h.le, h.max, h.hnil, fun x hx j hj => by
    rw [h.cells x hx j (by omega), List.getD_eq_getElem?_getD, List.getD_eq_getElem?_getD, List.getElem?_take, if_pos hj], fun z hz => h.wf z (List.mem_of_mem_take hz)⟩

set_option maxRecDepth 100000 in
theorem nwords_any {w : World} (s : Option Addr) (n c : Nat) (l : List Int) (hr : RdI .u32 w s n c l) (hn : n ≤ 1000) (h0 : 0 < n) :
    Calls Tryd.prog 5 #[.slice s n c] w fun e w' => ∃ g c', e = .returned (.slice (some ⟨g, 0, none⟩) n c') ∧ Pw w' g n c' l ∧ w.heap.size ≤ g ∧ Below w.heap.size w w' := by
  obtain ⟨i0, hi, hz0, hz1, hz2⟩ := info32p
  have HS := hid (hr.src32 (P := Tryd.prog) (t := 25) (e := 22) Tryd.underlying25)
  have HO := hid (World.ownsRow_nil w w.heap.size 22 1)
  have HK := hid (fun z hz => col_of hr (z := z) hz)
  clear hr
  go_enter Tryd.func5, Tryd.ntmps5
  go_wp2_with (at_builtin; refine wpList_append_own_src _ rfl (.const (.slice none 0 0)) (.tmp 3) 25 25 rfl w.heap.size 22 i0 (.int .u32 0) 1 4 Tryd.underlying25 hi hz0 hz1 hz2 rfl _ _ _ rfl HO.out _ _ _ rfl HS.out (by simp only [maxLen]; omega) (fits4 (by omega)) (Nat.le_refl _) ?_; intro v3 w3 o3 g3; have HO3 := hid o3; have HG3 := hid g3; clear o3 g3)
  go_ret
  have h3 := HO3.out
  rw [Nat.zero_add, List.nil_append] at h3
  obtain ⟨g, c', rfl, hP, hb⟩ := pw_of_owns h3 HK.out h0
  exact ⟨g, c', rfl, hP, hb, (kp_of_grown HG3.out).below (Nat.le_refl _) (fun k hk => by cases hk)⟩
end Go.Proofs.YtmiapccngeafkaaDoor

/- Repaint: what the program puts together is, added, what the document adds; a damage cut ahead of being moved. Nothing of the program. -/
namespace Go.Proofs.YtmiapccngeafkaaDoor
open Go Go.RowKit

/-- What the program has at one place. -/
def qhp (o v : Option (List Int)) (D : List (Int × List Rc)) : List Rc := match o, v with
  | some a, some b => if a = b then (if dck (vrc b) = true then D.flatMap fun d => if d.1 = nm5 0 b then d.2.map (spt b) else [] else []) else [vrc a, vrc b]
  | some a, none => [vrc a]
  | none, some b => [vrc b]
  | none, none => []
def qhN (o v : List (List Int)) (D : List (Int × List Rc)) (k : Nat) : List Rc := (List.range k).flatMap fun i => qhp o[i]? v[i]? D
theorem qhN_zero (o v : List (List Int)) (D : List (Int × List Rc)) : qhN o v D 0 = [] := rfl
theorem qhN_succ (o v : List (List Int)) (D : List (Int × List Rc)) (k : Nat) : qhN o v D (k + 1) = qhN o v D k ++ qhp o[k]? v[k]? D := by
  rw [qhN, List.range_succ, List.flatMap_append, List.flatMap_singleton]
  rfl
theorem dfl_app (l m : List Rc) : dfl (l ++ m) = m.foldl dput (dfl l) := by rw [dfl, List.foldl_append]; rfl
theorem qhp_chp (o v : Option (List Int)) (D : List (Int × List Rc)) : qhp o v D = chp o v D ∨ (qhp o v D = [] ∧ ∀ r ∈ chp o v D, r = rz) := by
  cases o with
  | none => cases v <;> exact .inl rfl
  | some a =>
    cases v with
    | none => exact .inl rfl
    | some b =>
      rw [qhp, chp]
      by_cases e : a = b
      · rw [if_pos e, if_pos e]
        cases h : dck (vrc b) with
        | true => exact .inl rfl
        | false =>
          refine .inr ⟨rfl, fun r hr => ?_⟩
          obtain ⟨d, _, hr⟩ := List.mem_flatMap.1 hr
          split at hr
          · obtain ⟨x, _, rfl⟩ := List.mem_map.1 hr
            exact spt_no (.inl h)
          · cases hr
      · rw [if_neg e, if_neg e]
        exact .inl rfl
theorem qhN_dfl (o v : List (List Int)) (D : List (Int × List Rc)) (k : Nat) : dfl (qhN o v D k) = dfl (chN o v D k) := by
  induction k with
  | zero => rfl
  | succ k ih =>
    rw [qhN_succ, chN_succ, dfl_app, ih, ← dfl_app]
    rcases qhp_chp o[k]? v[k]? D with h | ⟨h, h'⟩
    · rw [h]
    · rw [h, List.append_nil, dfl_app_rz _ _ h']

/-- Cut ahead of being moved, it is the same. -/
theorem sh_spt {y : List Int} (k : Ck (vrc y)) (r : Rc) : sh (cut (bnd r) (bnd ⟨0, 0, nm5 4 y, nm5 5 y⟩)) (nm5 2 y) (nm5 3 y) = spt y r := by
  cases hb : emp (bnd r) with
  | true => rw [cut_emp1 hb, sh_emp rfl, spt_no (.inr hb)]
  | false =>
    have kb : Ck (bnd r) := by
      rcases bnd_cases r with h | h
      · rw [hb] at h; cases h
      · exact h
    rw [spt_cut k hb]
    obtain ⟨k1, k2, k3, k4, k5, k6⟩ := k
    simp only [vrc] at k1 k2 k3 k4 k5 k6
    have hw : emp ⟨0, 0, nm5 4 y, nm5 5 y⟩ = false := by
      simp only [emp, Bool.or_eq_false_iff, decide_eq_false_iff_not]
      omega
    have e : bnd ⟨0, 0, nm5 4 y, nm5 5 y⟩ = ⟨0, 0, min (nm5 4 y) 16777216, min (nm5 5 y) 16777216⟩ := by
      rw [bnd_full hw]
      dsimp only
      rw [oft_full (by rw [ed]; split <;> omega) (by rw [ed]; split <;> omega)]
      congr 1
      · rw [ed]; split <;> omega
      · rw [ed]; split <;> omega
    rw [e]
    generalize bnd r = q at *
    obtain ⟨l1, l2, l3, l4, l5, l6⟩ := kb
    have he : emp ⟨0, 0, min (nm5 4 y) 16777216, min (nm5 5 y) 16777216⟩ = false := by
      simp only [emp, Bool.or_eq_false_iff, decide_eq_false_iff_not]
      omega
    rw [cut_full hb he]
    dsimp only
    rw [en, if_pos (by omega), en, if_pos (by omega), en, if_pos (by omega), en, if_pos (by omega)]
    unfold oft
    split
    · rw [sh_emp rfl, if_pos (by omega)]
    · rw [sh_full (by simp only [emp, Bool.or_eq_false_iff, decide_eq_false_iff_not]; omega), if_neg (by omega)]
      dsimp only
      congr 1 <;> omega
end Go.Proofs.YtmiapccngeafkaaDoor

/- Damaged surfaces: a slice of them, program's or document's; a row of one's own. -/
namespace Go.Proofs.YtmiapccngeafkaaDoor
open Go Go.RowKit

/-- A damaged surface: its number, where its damage lies, and this. -/
structure Dv where
  s : Int
  a : Option Addr
  n : Nat
  c : Nat
  l : List Rc
def dvv (d : Dv) : Array Value := #[.int .i64 d.s, .slice d.a d.n d.c]
/-- What it says, wherever that lies. -/
def ddl (d : Dv) : Int × List Rc := (d.s, d.l)
def dzz : Dv := ⟨0, none, 0, 0, []⟩
structure DOk (w : World) (d : Dv) : Prop where
  ks : I64 d.s
  rc : RdC w d.a d.n d.c d.l
theorem DOk.on {w u : World} {d : Dv} (h : DOk w d) (hb : Below w.heap.size w u) : DOk u d := ⟨h.ks, h.rc.on hb⟩
/-- A slice of such. -/
structure RdD (w : World) (a : Option Addr) (n c : Nat) (ds : List Dv) : Prop where
  len : ds.length = n
  le : n ≤ c
  max : c ≤ maxLen
  hnil : a = none → c = 0
  pl : 0 < n → ∃ b off, a = some ⟨b, off, none⟩ ∧ b < w.heap.size ∧ ∀ j d, ds[j]? = some d → ∀ i v, (dvv d)[i]? = some v → w.cell? ⟨b, off + (j * 2 + i), none⟩ = some v
  ok : ∀ d ∈ ds, DOk w d
theorem RdD.nil (w : World) : RdD w none 0 0 [] := ⟨rfl, Nat.le_refl _, Nat.zero_le _, fun _ => rfl, fun h => absurd h (by omega), by simp⟩
theorem RdD.small {w : World} {a : Option Addr} {n c : Nat} {ds : List Dv} (h : RdD w a n c ds) : n ≤ 9223372036854775807 ∧ c ≤ 9223372036854775807 := by
  have h1 := h.le
  have h2 := h.max
  simp only [maxLen] at h2
  omega
theorem RdD.on {w u : World} {a : Option Addr} {n c : Nat} {ds : List Dv} (h : RdD w a n c ds) (hb : Below w.heap.size w u) : RdD u a n c ds :=
  ⟨h.len, h.le, h.max, h.hnil, fun hn => by
    obtain ⟨b, off, e, h1, h2⟩ := h.pl hn
    exact ⟨b, off, e, Nat.lt_of_lt_of_le h1 hb.size, fun j d hj i v hv => by rw [hb.cell h1]; exact h2 j d hj i v hv⟩, fun d hd => (h.ok d hd).on hb⟩
theorem RdD.el {w : World} {a : Option Addr} {n c : Nat} {ds : List Dv} (h : RdD w a n c ds) {j : Nat} (hj : j < n) : ∃ b off d, a = some ⟨b, off, none⟩ ∧ b < w.heap.size ∧ ds[j]? = some d ∧ DOk w d ∧ w.cell? ⟨b, off + j * 2, none⟩ = some (.int .i64 d.s) ∧ w.cell? ⟨b, off + j * 2 + 1, none⟩ = some (.slice d.a d.n d.c) := by
  obtain ⟨b, off, e, h1, h2⟩ := h.pl (by omega)
  have hl := h.len
  have hg : ds[j]? = some ds[j] := List.getElem?_eq_getElem (by omega)
  have h4 := h2 j _ hg
  exact ⟨b, off, _, e, h1, hg, h.ok _ (List.mem_of_getElem? hg), by simpa using h4 0 (.int .i64 ds[j].s) rfl, by simpa [Nat.add_assoc] using h4 1 (.slice ds[j].a ds[j].n ds[j].c) rfl⟩

def dcs (l : List Dv) : List Value := l.flatMap fun d => (dvv d).toList
theorem dcs_append (a b : List Dv) : dcs (a ++ b) = dcs a ++ dcs b := by simp [dcs]
theorem dcs_at {l : List Dv} {j : Nat} {d : Dv} (hj : l[j]? = some d) {i : Nat} {v : Value} (hi : (dvv d)[i]? = some v) : (dcs l)[j * 2 + i]? = some v := by
  induction l generalizing j with
  | nil => simp at hj
  | cons x l ih =>
    have hc : dcs (x :: l) = (dvv x).toList ++ dcs l := rfl
    rw [hc]
    cases j with
    | zero =>
      simp only [List.getElem?_cons_zero, Option.some.injEq] at hj
      subst hj
      have : i < (dvv x).toList.length := by simpa using (Array.getElem?_eq_some_iff.1 hi).1
      rw [Nat.zero_mul, Nat.zero_add, List.getElem?_append_left this]
      simpa using hi
    | succ j =>
      have h7 : (dvv x).toList.length = 2 := rfl
      rw [List.getElem?_append_right (by rw [h7]; omega), h7, show (j + 1) * 2 + i - 2 = j * 2 + i by omega]
      exact ih (by simpa using hj)
theorem dvv_one (d : Dv) : ∀ u ∈ (dvv d).toList, u.oneCell' = true := by
  intro u hu
  simp only [dvv, List.mem_cons, List.not_mem_nil, or_false] at hu
  rcases hu with rfl | rfl <;> rfl
/-- A row of such of the call's own; none of their damage lies in the row. -/
structure OwD (e : Nat) (w u : World) (v : Value) (l : List Dv) : Prop where
  own : u.ownsRow w.heap.size e 2 v l.length (dcs l)
  bel : Below w.heap.size w u
  ok : ∀ d ∈ l, DOk u d
  ap : ∀ d ∈ l, 0 < d.n → ∀ x, d.a = some x → v.ownBlock ≠ some x.block
theorem OwD.nil (e : Nat) (w : World) : OwD e w w (.slice none 0 0) [] := ⟨World.ownsRow_nil _ _ _ _, Below.refl _ _, by simp, by simp⟩
theorem OwD.on {e : Nat} {w u u' : World} {v : Value} {l : List Dv} (h : OwD e w u v l) (hb : Below u.heap.size u u') : OwD e w u' v l := ⟨ownsRow_below h.own hb, Below.on h.bel hb, fun x hx => (h.ok x hx).on hb, h.ap⟩
theorem El.kp {w u : World} {b o : Nat} {r : Rc} (h : El w b o r) {X : List Nat} (hk : Kp X w u) (hX : b ∉ X) : El u b o r :=
  ⟨Nat.lt_of_lt_of_le h.lt hk.size, hk.cell h.c0 hX, hk.cell h.c1 hX, hk.cell h.c2 hX, hk.cell h.c3 hX⟩
theorem RdC.kp {w u : World} {a : Option Addr} {n c : Nat} {l : List Rc} (h : RdC w a n c l) {X : List Nat} (hk : Kp X w u) (hX : 0 < n → ∀ x, a = some x → x.block ∉ X) : RdC u a n c l :=
  ⟨h.len, h.le, h.max, h.hnil, fun hn => by
    obtain ⟨b, off, e, h1, h2⟩ := h.pl hn
    exact ⟨b, off, e, Nat.lt_of_lt_of_le h1 hk.size, fun j r hr => (h2 j r hr).kp hk (by simpa using hX hn _ e)⟩, h.ok⟩
theorem DOk.kp {w u : World} {d : Dv} (h : DOk w d) {X : List Nat} (hk : Kp X w u) (hX : 0 < d.n → ∀ x, d.a = some x → x.block ∉ X) : DOk u d := ⟨h.ks, h.rc.kp hk hX⟩
theorem OwD.more {e : Nat} {w u u' : World} {v v' : Value} {l : List Dv} {x : Dv} (h : OwD e w u v l) (hx : DOk u x) (hxa : 0 < x.n → ∀ y, x.a = some y → v.ownBlock ≠ some y.block)
    (o2 : u'.ownsRow w.heap.size e 2 v' (l.length + 1) (dcs l ++ (dvv x).toList)) (g : u.grownBy u' v.ownBlock) (p : v'.ownBlock = v.ownBlock ∨ v'.ownBlock = some u.heap.size) : OwD e w u' v' (l ++ [x]) := by
  have hall : ∀ y ∈ l ++ [x], DOk u y ∧ (0 < y.n → ∀ z, y.a = some z → v.ownBlock ≠ some z.block) := fun y hy => by
    rcases List.mem_append.1 hy with hy | hy
    · exact ⟨h.ok y hy, h.ap y hy⟩
    · obtain rfl := List.mem_singleton.1 hy
      exact ⟨hx, hxa⟩
  refine ⟨by rw [List.length_append, dcs_append]; simpa [dcs] using o2, h.bel.grown g h.bel.size (fun k hk => (h.own.lt k hk).1), fun y hy => (hall y hy).1.kp (kp_of_grown g) (fun hn z hz hm => (hall y hy).2 hn z hz (by simpa using hm)), fun y hy hn z hz => ?_⟩
  rcases p with p | p
  · rw [p]
    exact (hall y hy).2 hn z hz
  · intro e2
    rw [p] at e2
    obtain ⟨b, off, e3, h4, _⟩ := (hall y hy).1.rc.pl hn
    rw [hz] at e3
    cases e3
    simp only [Option.some.injEq] at e2
    omega
theorem OwD.rd {e : Nat} {w u : World} {v : Value} {l : List Dv} (h : OwD e w u v l) : ∃ a c, v = .slice a l.length c ∧ RdD u a l.length c l := by
  rcases h.own.2 with ⟨rfl, h0⟩ | ⟨g, cap, cur, rfl, hb, hg, hn, hm, _, _⟩
  · obtain rfl : l = [] := List.eq_nil_of_length_eq_zero h0
    exact ⟨none, 0, rfl, RdD.nil u⟩
  · exact ⟨_, cap, rfl, ⟨rfl, hn, hm, (fun h => by cases h), fun _ => ⟨g, 0, rfl, (h.own.lt g rfl).2, fun j x hj i v hv => by
      have hi : i < 2 := by simpa [dvv] using (Array.getElem?_eq_some_iff.1 hv).1
      have hjl := (List.getElem?_eq_some_iff.1 hj).1
      rw [Nat.zero_add, h.own.cellAt _ (by omega)]
      exact dcs_at hj hv⟩, h.ok⟩⟩
theorem src_dv {P : Program} {T TS : Nat} (hu : P.underlying TS = some (.slice T)) (U : World) (d : Dv) : Src P 2 TS (.slice (some ⟨U.heap.size, 0, none⟩) 1 1) 1 (dvv d).toList (U.alloc (.cells (dvv d) T)) := by
  refine Src.ofSlice _ hu ⟨U.heap.size, 0, none⟩ 1 1 (dvv d).toList rfl (fun j u hu => ?_) (dvv_one d)
  rw [Go.WideShapes.add_plain, Nat.zero_add, Lib.cell_of_heap (heap_alloc_new U _)]
  simpa using hu
/-- A literal of one. -/
theorem rdd_one (U : World) (T : Nat) {d : Dv} (h : DOk U d) : RdD (U.alloc (.cells (dvv d) T)) (some ⟨U.heap.size, 0, none⟩) 1 1 [d] :=
  ⟨rfl, Nat.le_refl _, by decide, (fun h => by cases h), fun _ => ⟨U.heap.size, 0, rfl, by simp, fun j x hj i v hv => by
    match j, hj with
    | 0, hj =>
      cases hj
      rw [Nat.zero_mul, Nat.zero_add, Nat.zero_add, Lib.cell_of_heap (heap_alloc_new U _)]
      exact hv⟩, fun x hx => by
    obtain rfl := List.mem_singleton.1 hx
    exact h.on ((Below.refl _ _).alloc (Nat.le_refl _) _)⟩
theorem i64_wf {n : Int} (h : (Lit.int .i64 n).wf = true) : I64 n := by
  unfold I64
  simpa [Lit.wf, IntKind.min, IntKind.max, IntKind.signed, IntKind.bits] using h
theorem vrc_ok {y : List Int} (h : ∀ z ∈ y, I64 z) : (vrc y).Ok := by
  have k : ∀ i, -9223372036854775808 ≤ nm5 i y ∧ nm5 i y ≤ 9223372036854775807 := fun i => by
    rw [nm5, List.getD_eq_getElem?_getD]
    cases e : y[i]? with
    | none => simp
    | some z => exact h z (List.mem_of_getElem? e)
  exact ⟨k 2, k 3, k 4, k 5⟩
end Go.Proofs.YtmiapccngeafkaaDoor

/- Slices of rectangles, numbers and children: compared, copied, joined. Written by state/mk_stab.py. -/
namespace Go.Proofs.YtmiapccngeafkaaDoor
open Go Go.RowKit

theorem infoMP {P : Program} {e : TypeId} {z : Value} {n m : Nat} (h : (P.info? e).map (fun i => (i.zero, i.size, i.bytes)) = some (some z, n, m)) : ∃ i, P.info? e = some i ∧ i.zero = some z ∧ i.size = n ∧ i.bytes = m := by
  obtain ⟨i, hi, hz⟩ := Option.map_eq_some_iff.1 h
  simp only [Prod.mk.injEq] at hz
  exact ⟨i, hi, hz.1, hz.2.1, hz.2.2⟩
theorem fitsM {need b : Nat} (h : need ≤ 1000000000) (hb : b ≤ 32) : ∀ old, old < need → Builtin.nextslicecap need old * b ≤ 281474976710656 := fun old ho => by
  have h1 := nextslicecap_near ho
  have h2 : Builtin.nextslicecap need old * b ≤ Builtin.nextslicecap need old * 32 := Nat.mul_le_mul_left _ hb
  omega

/-- Whether two are the same. -/
def leq (x y : List Int) : Bool := decide (x = y)
def leqs (l m : List (List Int)) : Bool := decide (l = m)
theorem leqs_cons (x y : List Int) (l m : List (List Int)) : leqs (x :: l) (y :: m) = (leq x y && leqs l m) := by
  unfold leqs leq
  rw [Bool.eq_iff_iff]
  simp
theorem leqs_len {l m : List (List Int)} (h : l.length ≠ m.length) : leqs l m = false := by
  unfold leqs
  rw [decide_eq_false_iff_not]
  intro e
  exact h (by rw [e])
theorem leqs_same (l : List (List Int)) : leqs l l = true := decide_eq_true rfl
theorem leq_one (x y : Int) : leq [x] [y] = (x == y) := by
  unfold leq
  rw [Bool.eq_iff_iff]
  simp

/-- A row of slices: each cell of the block B bears one. -/
structure RdL (m : Nat) (w : World) (B : Nat) (L : List (List (List Int))) : Prop where
  each : ∀ (j : Nat) l, L[j]? = some l → ∃ a n c, w.cell? ⟨B, j, none⟩ = some (.slice a n c) ∧ RdM m w a n c l ∧ B < w.heap.size
theorem RdL.on {m : Nat} {w u : World} {B : Nat} {L : List (List (List Int))} (h : RdL m w B L) (hb : Below w.heap.size w u) : RdL m u B L :=
  ⟨fun j l hl => by
    obtain ⟨a, n, c, h1, h2, h3⟩ := h.each j l hl
    exact ⟨a, n, c, by rw [hb.cell h3]; exact h1, h2.on hb, Nat.lt_of_lt_of_le h3 hb.size⟩⟩
theorem flatten_take_snoc {L : List (List (List Int))} {j : Nat} {l : List (List Int)} (h : L[j]? = some l) : (L.take (j + 1)).flatten = (L.take j).flatten ++ l := by
  rw [List.take_add_one, h]
  simp
theorem flatten_take_le (L : List (List (List Int))) (j : Nat) : (L.take j).flatten.length ≤ L.flatten.length := by
  have : L.flatten = (L.take j).flatten ++ (L.drop j).flatten := by rw [← List.flatten_append, List.take_append_drop]
  rw [this, List.length_append]
  omega

theorem eqlM4_guard (x y : Operand) (xs ys : Array Value) (w : World) : (eqGuard .eql 24 x y (.agg xs) (.agg ys)).run Tryd.prog w = .ok () w := run_eqGuard_agg w .eql 24 x y xs ys (by kernel_rfl)
theorem neqM4_guard (x y : Operand) (xs ys : Array Value) (w : World) : (eqGuard .neq 24 x y (.agg xs) (.agg ys)).run Tryd.prog w = .ok () w := run_eqGuard_agg w .neq 24 x y xs ys (by kernel_rfl)
theorem equalM4 (x0 x1 x2 x3 y0 y1 y2 y3 : Int) (w : World) : (Op.equalIn 10000 24 (.agg #[.int .i64 x0, .int .i64 x1, .int .i64 x2, .int .i64 x3]) (.agg #[.int .i64 y0, .int .i64 y1, .int .i64 y2, .int .i64 y3])).run Tryd.prog w = .ok (leq [x0, x1, x2, x3] [y0, y1, y2, y3]) w := by
  have u3 := Tryd.underlying3
  have a3 := Tryd.isAgg3
  have z3 := Tryd.sizeOf3
  have hS : Tryd.prog.underlying 24 = some (.struct (Tryd.prog.fieldsOf 24)) := by kernel_rfl
  have hp : Tryd.prog.stoodInHeld 24 = false := by kernel_rfl
  rw [show (10000 : Nat) = 9999 + 1 from rfl, run_equalIn_agg w 9999 24 _ _ hS hp]
  simp only [Program.fieldsOf, Tryd.underlying24]
  go_simp
  unfold leq
  by_cases h0 : x0 = y0 <;> by_cases h1 : x1 = y1 <;> by_cases h2 : x2 = y2 <;> by_cases h3 : x3 = y3 <;> simp [h0, h1, h2, h3]
theorem eqlM4 (x0 x1 x2 x3 y0 y1 y2 y3 : Int) (w : World) : (binOp .eql 24 (.agg #[.int .i64 x0, .int .i64 x1, .int .i64 x2, .int .i64 x3]) (.agg #[.int .i64 y0, .int .i64 y1, .int .i64 y2, .int .i64 y3])).run Tryd.prog w = .ok (.bool (leq [x0, x1, x2, x3] [y0, y1, y2, y3])) w := by
  rw [run_eql_struct, equalM4]
  rfl
theorem neqM4 (x0 x1 x2 x3 y0 y1 y2 y3 : Int) (w : World) : (binOp .neq 24 (.agg #[.int .i64 x0, .int .i64 x1, .int .i64 x2, .int .i64 x3]) (.agg #[.int .i64 y0, .int .i64 y1, .int .i64 y2, .int .i64 y3])).run Tryd.prog w = .ok (.bool (!leq [x0, x1, x2, x3] [y0, y1, y2, y3])) w := by
  rw [run_neq_struct, equalM4]
  rfl



set_option maxRecDepth 100000 in
set_option maxHeartbeats 1000000 in
theorem equal1_any (a a' : Option Addr) (n c n' c' : Nat) (l m : List (List Int)) (w : World) (h : RdM 1 w a n c l) (h' : RdM 1 w a' n' c' m) :
    Calls Tryd.prog 71 #[.slice a n c, .slice a' n' c'] w fun e w' => e = .returned (.bool (leqs l m)) ∧ ∃ q, w' = w.drewN q := by
  have hl := h.len
  have hl' := h'.len
  have hn63 := h.small.1
  have hn63' := h'.small.1
  by_cases hnn : n = n'
  · subst hnn
    have H := hid h
    have H' := hid h'
    have HL := hid hl
    have HL' := hid hl'
    clear h h' hl hl'
    go_enter Tryd.func71, Tryd.ntmps71
    go_wp2
    go_loopw [13] (fun i wr => ∃ j : Nat, i = .int .i64 j ∧ j ≤ n ∧ leqs (l.drop j) (m.drop j) = leqs l m ∧ ∃ q, wr = w.drewN q) (fun i _ => n - (numOf i).toNat)
    case atStart => exact ⟨0, rfl, by omega, rfl, 0, rfl⟩
    case round =>
      obtain ⟨j, rfl, hj, hq, q, rfl⟩ := hrel
      by_cases hgo : j < n
      · have e1 : decide ((j : Int) < n) = true := decide_eq_true (by omega)
        have e2 : (j : Int) < n := by omega
        obtain ⟨blx, offx, x0, rfl, _, hx, c0⟩ := H.out.el1 hgo
        obtain ⟨bly, offy, y0, rfl, _, hy, d0⟩ := H'.out.el1 hgo
        have HD : Hid (leqs l m = (leq [x0] [y0] && leqs (l.drop (j + 1)) (m.drop (j + 1)))) := by
          rw [Hid, ← hq, drop_at' hx, drop_at' hy, leqs_cons]
        clear hx hy hq
        have hn0 : (x0 != y0) = !leq [x0] [y0] := by rw [leq_one]; rfl
        cases hs : leq [x0] [y0]
        · rw [hs] at hn0
          have HE : Hid (leqs l m = false) := by rw [Hid, HD.out, hs]; rfl
          clear HD
          go_wp2
          go_quiet (fail)
          go_wp2
          go_ret
          rw [HE.out, World.drewN_drewN]
          exact ⟨rfl, _, rfl⟩
        · rw [hs] at hn0
          have HE : Hid (leqs (l.drop (j + 1)) (m.drop (j + 1)) = leqs l m) := by rw [Hid, HD.out, hs]; rfl
          clear HD
          go_wp2
          go_quiet (fail)
          go_wp2
          go_roundw
          case rel => exact ⟨j + 1, by go_num, by omega, HE.out, _, rfl⟩
          case measure => simp [numOf]; omega
      · have e1 : decide ((j : Int) < n) = false := decide_eq_false (by omega)
        have HE : Hid (leqs l m = true) := by
          rw [Hid, ← hq, List.drop_eq_nil_of_le (by rw [HL.out]; omega), List.drop_eq_nil_of_le (by rw [HL'.out]; omega)]
          rfl
        clear hq
        go_wp2
        go_ret
        rw [HE.out]
        exact ⟨rfl, _, rfl⟩
  · have HE : Hid (leqs l m = false) := leqs_len (by omega)
    have e1 : ((n : Int) == n') = false := by simp; omega
    clear h h' hl hl'
    go_enter Tryd.func71, Tryd.ntmps71
    go_wp2
    go_ret
    rw [HE.out]
    exact ⟨rfl, 0, rfl⟩




theorem infoM4 : (Tryd.prog.info? 24).map (fun i => (i.zero, i.size, i.bytes)) = some (some (.agg #[.int .i64 0, .int .i64 0, .int .i64 0, .int .i64 0]), 4, 32) := by kernel_rfl
theorem infoM1 : (Tryd.prog.info? 3).map (fun i => (i.zero, i.size, i.bytes)) = some (some (.int .i64 0), 1, 8) := by kernel_rfl







end Go.Proofs.YtmiapccngeafkaaDoor

/- Structs of six numbers (views) compared. -/
namespace Go.Proofs.YtmiapccngeafkaaDoor
open Go Go.RowKit

theorem eqlM6_guard (x y : Operand) (xs ys : Array Value) (w : World) : (eqGuard .eql 32 x y (.agg xs) (.agg ys)).run Tryd.prog w = .ok () w := run_eqGuard_agg w .eql 32 x y xs ys (by kernel_rfl)
theorem neqM6_guard (x y : Operand) (xs ys : Array Value) (w : World) : (eqGuard .neq 32 x y (.agg xs) (.agg ys)).run Tryd.prog w = .ok () w := run_eqGuard_agg w .neq 32 x y xs ys (by kernel_rfl)
theorem equalM6 (x0 x1 x2 x3 x4 x5 y0 y1 y2 y3 y4 y5 : Int) (w : World) : (Op.equalIn 10000 32 (.agg #[.int .i64 x0, .int .i64 x1, .int .i64 x2, .int .i64 x3, .int .i64 x4, .int .i64 x5]) (.agg #[.int .i64 y0, .int .i64 y1, .int .i64 y2, .int .i64 y3, .int .i64 y4, .int .i64 y5])).run Tryd.prog w = .ok (leq [x0, x1, x2, x3, x4, x5] [y0, y1, y2, y3, y4, y5]) w := by
  have u3 := Tryd.underlying3
  have a3 := Tryd.isAgg3
  have z3 := Tryd.sizeOf3
  have hS : Tryd.prog.underlying 32 = some (.struct (Tryd.prog.fieldsOf 32)) := by kernel_rfl
  have hp : Tryd.prog.stoodInHeld 32 = false := by kernel_rfl
  rw [show (10000 : Nat) = 9999 + 1 from rfl, run_equalIn_agg w 9999 32 _ _ hS hp]
  simp only [Program.fieldsOf, Tryd.underlying32]
  go_simp
  unfold leq
  by_cases h0 : x0 = y0 <;> by_cases h1 : x1 = y1 <;> by_cases h2 : x2 = y2 <;> by_cases h3 : x3 = y3 <;> by_cases h4 : x4 = y4 <;> by_cases h5 : x5 = y5 <;> simp [h0, h1, h2, h3, h4, h5]
theorem eqlM6 (x0 x1 x2 x3 x4 x5 y0 y1 y2 y3 y4 y5 : Int) (w : World) : (binOp .eql 32 (.agg #[.int .i64 x0, .int .i64 x1, .int .i64 x2, .int .i64 x3, .int .i64 x4, .int .i64 x5]) (.agg #[.int .i64 y0, .int .i64 y1, .int .i64 y2, .int .i64 y3, .int .i64 y4, .int .i64 y5])).run Tryd.prog w = .ok (.bool (leq [x0, x1, x2, x3, x4, x5] [y0, y1, y2, y3, y4, y5])) w := by
  rw [run_eql_struct, equalM6]
  rfl
theorem neqM6 (x0 x1 x2 x3 x4 x5 y0 y1 y2 y3 y4 y5 : Int) (w : World) : (binOp .neq 32 (.agg #[.int .i64 x0, .int .i64 x1, .int .i64 x2, .int .i64 x3, .int .i64 x4, .int .i64 x5]) (.agg #[.int .i64 y0, .int .i64 y1, .int .i64 y2, .int .i64 y3, .int .i64 y4, .int .i64 y5])).run Tryd.prog w = .ok (.bool (!leq [x0, x1, x2, x3, x4, x5] [y0, y1, y2, y3, y4, y5])) w := by
  rw [run_neq_struct, equalM6]
  rfl

end Go.Proofs.YtmiapccngeafkaaDoor

/- Repaint: the contracts of the program's at, same, place, places, and of the document's rect. -/
namespace Go.Proofs.YtmiapccngeafkaaDoor
open Go Go.RowKit

theorem RdM.one {m : Nat} {w : World} {b off n c : Nat} {l : List (List Int)} (h : RdM m w (some ⟨b, off, none⟩) n c l) {i : Nat} {y : List Int} (hi : l[i]? = some y) : RdM m w (some ⟨b, off + i * m, none⟩) 1 1 [y] := by
  have hin : i < n := by
    rw [← h.len]
    exact (List.getElem?_eq_some_iff.1 hi).1
  obtain ⟨b', off', e, h1, h2⟩ := h.pl (by omega)
  cases e
  exact ⟨rfl, Nat.le_refl _, by decide, (fun h => by cases h), fun _ => ⟨b, off + i * m, rfl, h1, fun j y' hj k z hz => by
    match j, hj with
    | 0, hj =>
      cases hj
      rw [Nat.zero_mul, Nat.zero_add, Nat.add_assoc]
      exact h2 i y hi k z hz⟩, fun y' hy => by
    obtain rfl := List.mem_singleton.1 hy
    exact h.size _ (List.mem_of_getElem? hi)⟩
theorem RdM.zero {m : Nat} (w : World) (a : Option Addr) : RdM m w a 0 0 [] := ⟨rfl, Nat.le_refl _, Nat.zero_le _, fun _ => rfl, fun h => absurd h (by omega), by simp⟩

set_option maxRecDepth 100000 in
theorem qat_any (a : Option Addr) (n c : Nat) (l : List (List Int)) (w : World) (h : RdM 6 w a n c l) (i : Nat) (hi : i ≤ 1000000000) :
    Calls Tryd.prog 23 #[.slice a n c, .int .i64 i] w fun e w' => (∃ a', e = .returned (.slice a' (l[i]?).toList.length (l[i]?).toList.length) ∧ RdM 6 w a' (l[i]?).toList.length (l[i]?).toList.length (l[i]?).toList) ∧ w' = w := by
  have hle := h.le
  have hnil := h.hnil
  have hs := h.small
  by_cases hgo : i < n
  · obtain ⟨b, off, y, rfl, _, hy, _⟩ := h.at_ hgo
    have HR := hid (h.one hy)
    rw [hy]
    have e1 : min (i : Int) (n : Int) = (i : Int) := by omega
    have e2 : min ((i : Int) + 1) (n : Int) = ((i + 1 : Nat) : Int) := by omega
    have e3 : i ≤ i + 1 := by omega
    have e4 : i + 1 ≤ c := by omega
    obtain ⟨t, ht⟩ : ∃ t, i + 1 = t := ⟨_, rfl⟩
    have HT := hid ht
    rw [ht] at e2 e3 e4
    have e5 : t - i = 1 := by omega
    have e6 : t ≤ n := by omega
    clear h hy ht
    go_enter Tryd.func23, Tryd.ntmps23
    go_wp2
    go_ret
    exact ⟨⟨_, rfl, HR.out⟩, rfl⟩
  · have e0 : l[i]? = none := List.getElem?_eq_none (by rw [h.len]; omega)
    rw [e0]
    have e1 : min (i : Int) (n : Int) = (n : Int) := by omega
    have e2 : min ((i : Int) + 1) (n : Int) = (n : Int) := by omega
    clear h e0
    go_enter Tryd.func23, Tryd.ntmps23
    go_wp2
    go_ret
    exact ⟨⟨_, rfl, RdM.zero _ _⟩, rfl⟩

set_option maxRecDepth 100000 in
set_option maxHeartbeats 1000000 in
theorem qsame_any (a a' : Option Addr) (o v : Option (List Int)) (w : World) (h : RdM 6 w a o.toList.length o.toList.length o.toList) (h' : RdM 6 w a' v.toList.length v.toList.length v.toList) (hn : o ≠ none ∨ v ≠ none) :
    Calls Tryd.prog 24 #[.slice a o.toList.length o.toList.length, .slice a' v.toList.length v.toList.length] w fun e w' => e = .returned (.bool (decide (o = v))) ∧ ∃ q, w' = w.drewN q := by
  have hg := eqlM6_guard
  have hne := eqlM6
  cases o with
  | none =>
    cases v with
    | none => exact absurd hn (by simp)
    | some y =>
      rw [show decide ((none : Option (List Int)) = some y) = false by simp]
      clear h h' hn
      go_enter Tryd.func24, Tryd.ntmps24
      go_wp2
      go_quiet (fail)
      go_wp2
      go_ret
      exact ⟨rfl, _, rfl⟩
  | some x =>
    cases v with
    | none =>
      rw [show decide (some x = (none : Option (List Int))) = false by simp]
      clear h h' hn
      go_enter Tryd.func24, Tryd.ntmps24
      go_wp2
      go_quiet (fail)
      go_wp2
      go_ret
      exact ⟨rfl, _, rfl⟩
    | some y =>
      obtain ⟨blx, offx, x0, x1, x2, x3, x4, x5, rfl, _, hx, c0, c1, c2, c3, c4, c5⟩ := RdM.el6 (j := 0) h (show 0 < 1 by decide)
      obtain ⟨bly, offy, y0, y1, y2, y3, y4, y5, rfl, _, hy, d0, d1, d2, d3, d4, d5⟩ := RdM.el6 (j := 0) h' (show 0 < 1 by decide)
      simp only [Option.toList_some, List.getElem?_cons_zero, Option.some.injEq] at hx hy
      subst hx hy
      rw [Nat.zero_mul, Nat.add_zero] at c0 c1 c2 c3 c4 c5 d0 d1 d2 d3 d4 d5
      have hn0 := hne x0 x1 x2 x3 x4 x5 y0 y1 y2 y3 y4 y5
      have HE : Hid (decide (some [x0, x1, x2, x3, x4, x5] = some [y0, y1, y2, y3, y4, y5]) = leq [x0, x1, x2, x3, x4, x5] [y0, y1, y2, y3, y4, y5]) := by
        rw [Hid, leq]
        simp only [Option.some.injEq]
      rw [HE.out]
      generalize leq [x0, x1, x2, x3, x4, x5] [y0, y1, y2, y3, y4, y5] = r at hn0 ⊢
      clear h h' hn HE hne
      simp only [Option.toList_some, List.length_singleton]
      go_enter Tryd.func24, Tryd.ntmps24
      go_wp2
      go_quiet (fail)
      go_wp2
      go_ret
      exact ⟨rfl, _, rfl⟩

set_option maxRecDepth 100000 in
theorem qplace_any (z0 z1 z2 z3 z4 z5 : Int) (w : World) :
    Calls Tryd.prog 43 #[.agg #[.int .i64 z0, .int .i64 z1, .int .i64 z2, .int .i64 z3, .int .i64 z4, .int .i64 z5]] w fun e w' => e = .returned (.agg #[.int .i64 z2, .int .i64 z3, .int .i64 z4, .int .i64 z5]) ∧ Below w.heap.size w w' := by
  have hX := (bx_new (w.alloc (.cells #[.int .i64 z0, .int .i64 z1, .int .i64 z2, .int .i64 z3, .int .i64 z4, .int .i64 z5] 32)) ⟨z2, z3, z4, z5⟩).obj
  rw [size_new] at hX
  go_enter Tryd.func43, Tryd.ntmps43
  go_wp2
  refine bodyPost_ret (results_cell_row rfl _ _ (w.heap.size + 1) _ _ _ _ rfl hX Tryd.underlying24 rfl infoR) rfl ?_
  exact ⟨rfl, ((Below.refl _ _).alloc (Nat.le_refl _) _).alloc (by simp) _⟩


set_option maxRecDepth 100000 in
set_option maxHeartbeats 1000000 in
theorem qplaces_any (a : Option Addr) (n c : Nat) (l : List (List Int)) (w : World) (h : RdM 6 w a n c l) (hv : ∀ y ∈ l, (vrc y).Ok) (hn : n ≤ 1000000) :
    Calls Tryd.prog 26 #[.slice a n c] w (Ret w (l.map vrc)) := by
  obtain ⟨i0, hi, hz0, hz1, hz2⟩ := info3 infoC
  have HR := hid h
  have HL := hid h.len
  have hs := h.small
  have HV : Hid (∀ j : Nat, ∀ r ∈ (l.take j).map vrc, r.Ok) := fun j r hr => by
    obtain ⟨y, hy, rfl⟩ := List.mem_map.1 hr
    exact hv y (List.mem_of_mem_take hy)
  clear h hv
  go_enter Tryd.func26, Tryd.ntmps26
  go_wp2
  go_loopw [3, 8] (fun v i wr => ∃ j : Nat, i = .int .i64 j ∧ j ≤ n ∧ OwC w wr v ((l.take j).map vrc)) (fun _ i _ => n - (numOf i).toNat)
  case atStart => exact ⟨0, rfl, by omega, OwC.nil w⟩
  case round =>
    obtain ⟨j, rfl, hj, hO⟩ := hrel
    have HO := hid hO
    have hvj := HV.out j
    have HT : Hid (((l.take j).map vrc).length = j) := by rw [Hid, List.length_map, List.length_take, HL.out]; omega
    obtain ⟨av, cv, rfl, _⟩ := rdc_of_owns hO.own hvj
    rw [HT.out] at HO ⊢
    clear hO hvj
    by_cases hgo : j < n
    · have e1 : decide ((j : Int) < n) = true := decide_eq_true (by omega)
      have e2 : (j : Int) < n := by omega
      obtain ⟨b, off, z0, z1, z2, z3, z4, z5, rfl, hb, hy, d0, d1, d2, d3, d4, d5⟩ := (HR.out.on HO.out.bel).el6 hgo
      have HS : Hid ((l.take (j + 1)).map vrc = (l.take j).map vrc ++ [⟨z2, z3, z4, z5⟩]) := by
        rw [Hid, List.take_add_one, hy, List.map_append]
        rfl
      have hA := bel_new wr (.cells #[.int .i64 z0, .int .i64 z1, .int .i64 z2, .int .i64 z3, .int .i64 z4, .int .i64 z5] 32)
      have HA := hid hA
      clear hy hA
      go_wp2_with fail
      refine (qplace_any z0 z1 z2 z3 z4 z5 _).mono ?_
      rintro e w2 ⟨rfl, hb2⟩
      have HO2 := hid (HO.out.on (Below.on HA.out hb2))
      have HSR := hid (srcR w2 ⟨z2, z3, z4, z5⟩)
      have HO3 := hid (HO2.out.on (below_new w2 (ob ⟨z2, z3, z4, z5⟩)))
      clear hb2 HO HO2 HA d0 d1 d2 d3 d4 d5
      go_wp2_with (at_builtin; refine wpList_append_own_src _ rfl (.tmp 12) (.tmp 15) 29 29 rfl w.heap.size 24 i0 (.agg #[.int .i64 0, .int .i64 0, .int .i64 0, .int .i64 0]) 4 32 Tryd.underlying29 hi hz0 hz1 hz2 rfl _ _ _ rfl HO3.out.own _ 1 _ rfl HSR.out (by rw [HT.out]; simp only [maxLen]; omega) (fits32 (by rw [HT.out]; omega)) HO3.out.size ?_; intro v3 w3 o3 g3; have HO5 := hid (HO3.out.grown (m := [⟨z2, z3, z4, z5⟩]) o3 g3); clear o3 g3)
      go_roundw
      case rel => exact ⟨j + 1, by go_num, by omega, by rw [HS.out]; exact HO5.out⟩
      case measure => simp [numOf]; omega
    · have e1 : decide ((j : Int) < n) = false := decide_eq_false (by omega)
      have HE : Hid (l.take j = l) := List.take_of_length_le (by rw [HL.out]; omega)
      have hF := HO.out.ret (HV.out j)
      rw [HE.out] at hF
      have HF := hid hF
      clear hF
      go_wp2
      go_ret
      exact HF.out
end Go.Proofs.YtmiapccngeafkaaDoor

/- Append onto a slice without room, which is nobody's own (structs of m numbers): over any program. -/
namespace Go.Proofs.YtmiapccngeafkaaDoor
open Go Go.RowKit

section
variable {P : Program} (w : World)
theorem run_append_full (m t tx ty e e' : TypeId) (i : TypeInfo) (z : Value) (bytes : Nat) (ht : P.underlying t = some (.slice e)) (htx : P.underlying tx = some (.slice e')) (hi : P.info? e = some i) (hz : i.zero = some z)
    (hsize : i.size = m) (hby : i.bytes = bytes) (hzs : z.cells.size = m)
    (va : Option Addr) (n : Nat) (l : List (List Int)) (hr : RdM m w va n n l) (vx : Option Addr) (n' c' : Nat) (l' : List (List Int)) (hr' : RdM m w vx n' c' l') (hpos : 0 < n + n')
    (h63 : n + n' ≤ maxLen) (hbytes : ∀ old, old < n + n' → Builtin.nextslicecap (n + n') old * bytes ≤ 281474976710656) :
    ∃ a'' c'' w', (Builtin.append_ #[t, tx] ty #[.slice va n n, .slice vx n' c']).run P w = .ok (.slice a'' (n + n') c'') w' ∧ RdM m w' a'' (n + n') c'' (l ++ l') ∧ Below w.heap.size w w' := by
  subst hsize
  subst hby
  have hs := hr'.src (P := P) htx
  have ho := hr.src (P := P) ht
  have hl := hr.len
  have hl' := hr'.len
  have hsmall : n + n' ≤ 9223372036854775807 := by simp only [maxLen] at h63; omega
  by_cases hn : n' = 0
  · subst hn
    obtain rfl : l' = [] := List.eq_nil_of_length_eq_zero hl'
    obtain ⟨b, off, rfl, _, _⟩ := hr.pl (by omega)
    have hrun := run_append_room_src (P := P) w t tx ty e i ht hi b off n n (.slice vx 0 c') 0 [] (by simpa [mcs] using hs) (by omega) (fun j hj => absurd hj (by simp)) (fun j hj => absurd hj (by simp))
    refine ⟨_, _, _, hrun, ?_, ?_⟩
    · rw [List.append_nil]
      exact hr
    · exact Below.refl _ _
  · have hrun := run_append_grow_src (P := P) w t tx ty e i z ht hi hz va n n (mcs l) ho.cellsD (.slice vx n' c') n' (mcs l') hs (by omega) (by omega) (hbytes _ (by omega))
    have hge := grownCap_ge w (n + n') n e
    have hcm : grownCap w (n + n') n e ≤ maxLen := grownCap_le_maxLen w (n + n') n e h63
    have hlen : (mcs l ++ mcs l').length = (n + n') * i.size := by rw [List.length_append, ho.newsLen, hs.newsLen, Nat.add_mul]
    have hO : OwM i.size e w (w.drew.alloc (.cells ((mcs l ++ mcs l').toArray ++ Builtin.zeroCells z.cells (grownCap w (n + n') n e - (n + n'))) e)) (.slice (some ⟨w.heap.size, 0, none⟩) (n + n') (grownCap w (n + n') n e)) (l ++ l') := by
      refine ⟨⟨?_, .inr ⟨w.heap.size, _, _, ?_, Nat.le_refl _, _root_.Go.heap_alloc_new w.drew _, ?_, hcm, ?_, ?_⟩⟩, (Below.refl _ _).drew.alloc (Nat.le_refl _) _, fun y hy => ?_⟩
      · rw [mcs_append, hlen, List.length_append, hl, hl']
      · rw [List.length_append, hl, hl']
      · rw [List.length_append, hl, hl']
        exact hge
      · simp only [Array.size_append, List.size_toArray, size_zeroCells, hzs, hlen, ← Nat.add_mul]
        congr 1
        omega
      · simp only [Array.toList_append]
        rw [List.length_append, hl, hl', ← hlen, mcs_append]
        exact List.take_left
      · rcases List.mem_append.1 hy with hy | hy
        · exact hr.size y hy
        · exact hr'.size y hy
    obtain ⟨a, c, e1, hR, _⟩ := hO.rd
    rw [List.length_append, hl, hl'] at e1 hR
    cases e1
    exact ⟨_, _, _, hrun, hR, hO.bel⟩

theorem wpList_append_full {ops : Array Oper} {rest : List Oper} {o : Oper} {a : Act} {Q : Exit → Act → World → Prop} (hgd : o.guard = none) (s x : Operand) (t tx : TypeId)
    (ho : o.op = .call { callee := .builtin .append, args := #[s, x], argTypes := #[t, tx] })
    (e e' : TypeId) (i : TypeInfo) (z : Value) (m bytes : Nat) (ht : P.underlying t = some (.slice e)) (htx : P.underlying tx = some (.slice e')) (hi : P.info? e = some i) (hz : i.zero = some z)
    (hsize : i.size = m) (hby : i.bytes = bytes) (hzs : z.cells.size = m)
    (va : Option Addr) (n : Nat) (l : List (List Int)) (hs : a.eval s = .slice va n n) (hr : RdM m w va n n l) (vx : Option Addr) (n' c' : Nat) (l' : List (List Int)) (hx : a.eval x = .slice vx n' c') (hr' : RdM m w vx n' c' l') (hpos : 0 < n + n')
    (h63 : n + n' ≤ maxLen) (hbytes : ∀ old, old < n + n' → Builtin.nextslicecap (n + n') old * bytes ≤ 281474976710656)
    (h : ∀ a'' c'' w', RdM m w' a'' (n + n') c'' (l ++ l') → Below w.heap.size w w' → wpList P ops Q rest (a.put o.dst (.slice a'' (n + n') c'')) w') : wpList P ops Q (o :: rest) a w :=
  wpList_plain hgd fun K hK => by
    obtain ⟨a'', c'', w', hrun, h2, h3⟩ := run_append_full (P := P) w m t tx o.type e e' i z bytes ht htx hi hz hsize hby hzs va n l hr vx n' c' l' hr' hpos h63 hbytes
    unfold Oper.wp execOp
    simp only [ho, resolve, invoke, builtin, Sem.run_bind, Sem.run_pure, Result.andThen_ok, List.map_toArray, List.map_cons, List.map_nil, hs, hx, hrun]
    exact hK _ _ (h a'' c'' w' h2 h3)
end
end Go.Proofs.YtmiapccngeafkaaDoor

/- The contract of slices.DeleteFunc with the program's Empty. -/
namespace Go.Proofs.YtmiapccngeafkaaDoor
open Go Go.RowKit

theorem setRow_own {w u : World} {base e size m c g : Nat} {cur : Array Value} (xs : List Value) (hb : base ≤ g) (hg : u.heap[g]? = some (.cells cur e (0, 0))) (hm : m ≤ c) (hc : c ≤ maxLen) (hcs : cur.size = c * size) (new : List Value) (hn : new.length = cur.size) (hx : new.take (m * size) = xs) (hl : xs.length = m * size) (h : Below base w u) :
    (u.setRow g new.toArray).ownsRow base e size (.slice (some ⟨g, 0, none⟩) m c) m xs ∧ Below base w (u.setRow g new.toArray) := by
  exact ⟨⟨hl, .inr ⟨g, c, new.toArray, rfl, hb, setRow_heap u g cur _ e _ hg, hm, hc, by simpa [hn] using hcs, by simpa using hx⟩⟩, below_setRow h hb _⟩

/-- 'copy' onto a row of the call's own that is just as long. -/
theorem copy_own {w u : World} {g : Nat} {a : Option Addr} {n c : Nat} {l : List Rc} {xs : List Value} (hO : u.ownsRow w.heap.size 24 4 (.slice (some ⟨g, 0, none⟩) n n) n xs) (hB : Below w.heap.size w u) (h : RdC u a n c l) :
    ∃ u', (∀ ty : TypeId, (Builtin.copy_ #[29, 29] ty #[.slice (some ⟨g, 0, none⟩) n n, .slice a n c]).run Tryd.prog u = .ok (.int .i64 n) u') ∧ OwC w u' (.slice (some ⟨g, 0, none⟩) n n) l := by
  obtain ⟨i0, hi, hz0, hz1, hz2⟩ := info3 infoC
  have hl := h.len
  rcases hO.2 with ⟨e0, _⟩ | ⟨g', cap, cur, e0, hb, hg, hn, hm, hcs, ht⟩
  · cases e0
  · cases e0
    rcases Nat.eq_zero_or_pos n with h0 | h0
    · subst h0
      obtain rfl : l = [] := List.eq_nil_of_length_eq_zero hl
      refine ⟨u, ?_, ⟨?_, hB⟩⟩
      · intro ty
        cases a with
        | none => simp [Builtin.copy_, run_underlying Tryd.underlying29, Builtin.lenOf, Builtin.firstCells, sizeOf, typeInfo, hi, storeCells, goInt]
        | some x => simp [Builtin.copy_, run_underlying Tryd.underlying29, Builtin.lenOf, Builtin.firstCells, sizeOf, typeInfo, hi, storeCells, loadCells, loadCellsFrom, goInt]
      · exact ⟨rfl, .inr ⟨g, 0, cur, rfl, hb, hg, hn, hm, hcs, by simp [rccs]⟩⟩
    · obtain ⟨b, off, rfl, hbl, hel⟩ := h.pl h0
      have hcl := cells_of hel
      have hld := run_loadCells_list (P := Tryd.prog) u ⟨b, off, none⟩ (rccs l) (fun j v hj => by rw [Go.WideShapes.add_plain]; exact hcl j v hj)
      have hst := run_storeCells_at Tryd.prog g 0 24 (rccs l) 0 cur u hg (by rw [rccs_length, hl, hcs]; simp) (rccs_one l)
      have hlen : (rccs l).length = n * 4 := by rw [rccs_length, hl]
      rw [hlen] at hld
      obtain ⟨o1, o2⟩ := setRow_own (w := w) (rccs l) hb hg hn hm hcs (cur.toList.take 0 ++ rccs l ++ cur.toList.drop (0 + (rccs l).length)) (by simp [hlen, hcs]) (by simp [hlen]) hlen hB
      refine ⟨_, ?_, ⟨by rw [hl]; exact o1, o2⟩⟩
      intro ty
      simp [Builtin.copy_, run_underlying Tryd.underlying29, Builtin.lenOf, Builtin.firstCells, sizeOf, typeInfo, hi, hz1, hld, hst, goInt]

/-- 'clear' of what is behind the first i of a row of the call's own. -/
theorem clear_own {w u : World} {g n c : Nat} {l : List Rc} (hO : OwC w u (.slice (some ⟨g, 0, none⟩) n c) l) (hn : l.length = n) {i : Nat} (hi : i < n) :
    ∃ u', (∀ (ty : TypeId) (c' : Nat), (Builtin.clear_ #[29] ty #[.slice (some ⟨g, i * 4, none⟩) (n - i) c']).run Tryd.prog u = .ok (.tuple #[]) u') ∧ OwC w u' (.slice (some ⟨g, 0, none⟩) i c) (l.take i) := by
  have hv : ∀ w', (zeroValue 24).run Tryd.prog w' = .ok (.agg #[.int .i64 0, .int .i64 0, .int .i64 0, .int .i64 0]) w' := Tryd.zeroValue24
  have own := hO.own
  rw [hn] at own
  rcases own.2 with ⟨e0, _⟩ | ⟨g', cap, cur, e0, hb, hg, hnc, hm, hcs, ht⟩
  · cases e0
  · cases e0
    obtain ⟨Z, hZ⟩ : ∃ Z, Z = (Builtin.zeroCells (Value.agg #[.int .i64 0, .int .i64 0, .int .i64 0, .int .i64 0]).cells (n - i)).toList := ⟨_, rfl⟩
    have hZl : Z.length = (n - i) * 4 := by rw [hZ]; simp [size_zeroCells, Value.cells]
    have hZ1 : ∀ v ∈ Z, v.oneCell' = true := fun v hv => by
      rw [hZ] at hv
      simp only [Builtin.zeroCells, Value.cells, List.size_toArray, List.length_cons, List.length_nil, Array.toList_map, List.mem_map] at hv
      obtain ⟨k, _, rfl⟩ := hv
      obtain h | h | h | h : k % (0 + 1 + 1 + 1 + 1) = 0 ∨ k % (0 + 1 + 1 + 1 + 1) = 1 ∨ k % (0 + 1 + 1 + 1 + 1) = 2 ∨ k % (0 + 1 + 1 + 1 + 1) = 3 := by omega
      all_goals
        rw [h]
        rfl
    have hst := run_storeCells_at Tryd.prog g (i * 4) 24 Z 0 cur u hg (by rw [hZl, hcs]; omega) hZ1
    have hlt : (rccs (l.take i)).length = i * 4 := by rw [rccs_length, List.length_take]; omega
    have hpre : cur.toList.take (i * 4) = rccs (l.take i) := by
      have := congrArg (List.take (i * 4)) ht
      rw [List.take_take, Nat.min_eq_left (by omega)] at this
      rw [this]
      have e : rccs l = rccs (l.take i) ++ rccs (l.drop i) := by rw [← rccs_append, List.take_append_drop]
      rw [e, ← hlt, List.take_left]
    obtain ⟨o1, o2⟩ := setRow_own (w := w) (m := i) (rccs (l.take i)) hb hg (by omega) hm hcs (cur.toList.take (i * 4 + 0) ++ Z ++ cur.toList.drop (i * 4 + 0 + Z.length)) (by simp [hZl, hcs]; omega) (by rw [Nat.add_zero, List.append_assoc, hpre, ← hlt, List.take_left]) hlt hO.bel
    refine ⟨_, ?_, ⟨by rw [List.length_take, Nat.min_eq_left (by omega)]; exact o1, o2⟩⟩
    intro ty c'
    obtain ⟨m, hm2⟩ : ∃ m, n - i = m + 1 := ⟨n - i - 1, by omega⟩
    rw [hm2] at hZ ⊢
    simp only [Nat.add_zero] at hst ⊢
    simp [Builtin.clear_, run_underlying Tryd.underlying29, hv, ← hZ, hst]

theorem rccs_set {l : List Rc} {j : Nat} (hj : j < l.length) (r : Rc) : rccs (l.set j r) = ((((rccs l).set (j * 4) (.int .i64 r.x)).set (j * 4 + 1) (.int .i64 r.y)).set (j * 4 + 2) (.int .i64 r.w)).set (j * 4 + 3) (.int .i64 r.h) := by
  induction l generalizing j with
  | nil => simp at hj
  | cons x l ih =>
    cases j with
    | zero => simp [rccs_cons]
    | succ j =>
      rw [List.set_cons_succ, rccs_cons, rccs_cons, ih (by simpa using hj), show (j + 1) * 4 = j * 4 + 4 by omega]
      simp only [show j * 4 + 4 + 1 = j * 4 + 1 + 4 by omega, show j * 4 + 4 + 2 = j * 4 + 2 + 4 by omega, show j * 4 + 4 + 3 = j * 4 + 3 + 4 by omega, List.set_cons_succ]

/-- A rectangle written at a place of a block. -/
def sto (u : World) (g o : Nat) (a : Rc) : World := (((u.setCell ⟨g, o, none⟩ (.int .i64 a.x)).setCell ⟨g, o + 1, none⟩ (.int .i64 a.y)).setCell ⟨g, o + 2, none⟩ (.int .i64 a.w)).setCell ⟨g, o + 3, none⟩ (.int .i64 a.h)
theorem below_sto {B : Nat} {w u : World} {g : Nat} (h : Below B w u) (hg : B ≤ g) (o : Nat) (a : Rc) : Below B w (sto u g o a) := (((h.setCell (p := ⟨g, o, none⟩) hg _).setCell (p := ⟨g, o + 1, none⟩) hg _).setCell (p := ⟨g, o + 2, none⟩) hg _).setCell (p := ⟨g, o + 3, none⟩) hg _
theorem OwC.sto {w u : World} {g n c : Nat} {l : List Rc} (h : OwC w u (.slice (some ⟨g, 0, none⟩) n c) l) (hn : l.length = n) {j : Nat} (hj : j < n) (r : Rc) : OwC w (sto u g (j * 4) r) (.slice (some ⟨g, 0, none⟩) n c) (l.set j r) := by
  have h1 := h.own
  rw [hn] at h1
  have hg := (h1.lt g rfl).1
  have h2 := (h1.stored (j * 4) (.int .i64 r.x)).1
  have h3 := (h2.stored (j * 4 + 1) (.int .i64 r.y)).1
  have h4 := (h3.stored (j * 4 + 2) (.int .i64 r.w)).1
  have h5 := (h4.stored (j * 4 + 3) (.int .i64 r.h)).1
  exact ⟨by rw [List.length_set, hn, rccs_set (by omega)]; exact h5, below_sto h.bel hg _ _⟩
theorem OwC.fz {w u : World} {g n c : Nat} {l : List Rc} (h : OwC w u (.slice (some ⟨g, 0, none⟩) n c) l) (hn : l.length = n) (k : Nat) : u.frozen? ⟨g, k, none⟩ = false := by
  have h1 := h.own
  rw [hn] at h1
  exact h1.frozenAt k
theorem OwC.el {w u : World} {g n c : Nat} {l : List Rc} (h : OwC w u (.slice (some ⟨g, 0, none⟩) n c) l) (hn : l.length = n) : g < u.heap.size ∧ w.heap.size ≤ g ∧ ∀ j r, l[j]? = some r → El u g (j * 4) r := by
  have h1 := h.own
  rw [hn] at h1
  obtain ⟨g1, g2, g3⟩ := el_of_owns h1
  exact ⟨g1, g2, fun j r hr => by have := g3 j r hr; rwa [Nat.zero_add] at this⟩

/-- Those that have points. -/
def flt (l : List Rc) : List Rc := l.filter fun r => !emp r

/-- DeleteFunc's state. -/
structure Dl (l L : List Rc) (i j : Nat) : Prop where
  len : L.length = l.length
  ij : i < j
  fst : L.take i = flt (l.take j)
  snd : L.drop j = l.drop j
theorem Dl.skip {l L : List Rc} {i j : Nat} (h : Dl l L i j) {r : Rc} (hr : l[j]? = some r) (he : emp r = true) : Dl l L i (j + 1) := by
  refine ⟨h.len, by have := h.ij; omega, ?_, ?_⟩
  · rw [h.fst, flt, flt, List.take_add_one, hr, List.filter_append]
    simp [he]
  · have := congrArg List.tail h.snd
    simpa using this
theorem Dl.keep {l L : List Rc} {i j : Nat} (h : Dl l L i j) {r : Rc} (hr : l[j]? = some r) (he : emp r = false) : Dl l (L.set i r) (i + 1) (j + 1) := by
  have hij := h.ij
  have hj : j < l.length := (List.getElem?_eq_some_iff.1 hr).1
  have hl := h.len
  refine ⟨by rw [List.length_set]; exact hl, by omega, ?_, ?_⟩
  · have e : (L.set i r).take (i + 1) = L.take i ++ [r] := by
      rw [List.take_add_one, List.take_set_of_le (Nat.le_refl _), List.getElem?_set_self (by omega)]
      rfl
    rw [e, h.fst, flt, flt, List.take_add_one, hr, List.filter_append]
    simp [he]
  · rw [List.drop_set_of_lt (by omega)]
    have := congrArg List.tail h.snd
    simpa using this
theorem flt_none {l : List Rc} (h : ∀ (k : Nat) (r : Rc), l[k]? = some r → emp r = false) : flt l = l := by
  refine filter_whole fun r hr => ?_
  obtain ⟨k, hk⟩ := List.mem_iff_getElem?.1 hr
  rw [h k r hk]
  rfl
theorem idx_some {p : Rc → Bool} : ∀ {l : List Rc} {k : Nat}, idx p l = some k → (∃ r, l[k]? = some r ∧ p r = true) ∧ ∀ j r, j < k → l[j]? = some r → p r = false
  | [], k, h => by simp [idx] at h
  | x :: l, k, h => by
    rw [idx] at h
    split at h
    · rename_i hx
      cases h
      exact ⟨⟨x, rfl, hx⟩, fun j r hj => absurd hj (by omega)⟩
    · rename_i hx
      obtain ⟨m, hm, rfl⟩ := Option.map_eq_some_iff.1 h
      obtain ⟨⟨r, hr, hp⟩, h2⟩ := idx_some hm
      refine ⟨⟨r, by rw [List.getElem?_cons_succ]; exact hr, hp⟩, fun j r hj hr => ?_⟩
      cases j with
      | zero => simp at hr; subst hr; simpa using hx
      | succ j => rw [List.getElem?_cons_succ] at hr; exact h2 j r (by omega) hr
theorem idx_none {p : Rc → Bool} : ∀ {l : List Rc}, idx p l = none → ∀ (j : Nat) r, l[j]? = some r → p r = false
  | [], _, j, r, hr => by simp at hr
  | x :: l, h, j, r, hr => by
    rw [idx] at h
    split at h
    · cases h
    · rename_i hx
      cases j with
      | zero => simp at hr; subst hr; simpa using hx
      | succ j => rw [List.getElem?_cons_succ] at hr; exact idx_none (by simpa using h) j r hr
theorem Dl.start {l : List Rc} {k : Nat} (h : idx emp l = some k) : Dl l l k (k + 1) := by
  obtain ⟨⟨r, hr, hp⟩, h2⟩ := idx_some h
  refine ⟨rfl, by omega, ?_, rfl⟩
  rw [flt, List.take_add_one, hr, List.filter_append]
  have : (l.take k).filter (fun r => !emp r) = l.take k := filter_whole fun x hx => by
    obtain ⟨j, hj⟩ := List.mem_iff_getElem?.1 hx
    have hjk : j < k := by
      have := (List.getElem?_eq_some_iff.1 hj).1
      rw [List.length_take] at this
      omega
    rw [List.getElem?_take_of_lt hjk] at hj
    rw [h2 j x hjk hj]
    rfl
  rw [this]
  simp [hp]

end Go.Proofs.YtmiapccngeafkaaDoor

/- The contracts of the program's tooFar and Shift. -/
namespace Go.Proofs.YtmiapccngeafkaaDoor
open Go Go.RowKit

def far (n : Int) : Bool := decide (n < -16777216) || decide (16777216 < n)


theorem far_no {n : Int} (h : far n = false) : -16777216 ≤ n ∧ n ≤ 16777216 := by
  simp [far] at h
  omega

/-- A region, moved. -/
def shf (l : List Rc) (x y : Int) : List Rc := if rgn l = true ∧ far x = false ∧ far y = false then mk fst1 (shl l x y) [] else []
theorem shf_ok (l : List Rc) (x y : Int) : ∀ r ∈ shf l x y, r.Ok := fun r hr => by
  unfold shf at hr
  split at hr
  · rename_i h
    exact ((mk_all (f := fst1) rfl (shl_bands (rgn_iff.1 h.1).bands x y).ck (by simp)).1.ck r hr).ok
  · cases hr
/-- The first j moved. -/
def mvd (l : List Rc) (x y : Int) (j : Nat) : List Rc := (l.take j).map (fun r => bnd (sh r x y)) ++ l.drop j
theorem mvd_len (l : List Rc) (x y : Int) (j : Nat) : (mvd l x y j).length = l.length := by
  rw [mvd, List.length_append, List.length_map, ← List.length_append, List.take_append_drop]
theorem mvd_at {l : List Rc} {x y : Int} {j : Nat} {r : Rc} (h : l[j]? = some r) : (mvd l x y j)[j]? = some r := by
  have hj : j < l.length := (List.getElem?_eq_some_iff.1 h).1
  have hl : ((l.take j).map (fun r => bnd (sh r x y))).length = j := by simp; omega
  rw [mvd, List.getElem?_append_right (by omega), hl, Nat.sub_self, List.getElem?_drop, Nat.add_zero]
  exact h
theorem mvd_set {l : List Rc} {x y : Int} {j : Nat} {r : Rc} (h : l[j]? = some r) : (mvd l x y j).set j (bnd (sh r x y)) = mvd l x y (j + 1) := by
  have hj : j < l.length := (List.getElem?_eq_some_iff.1 h).1
  have hl : ((l.take j).map (fun r => bnd (sh r x y))).length = j := by simp; omega
  rw [mvd, List.set_append_right _ _ (by omega), hl, Nat.sub_self, drop_at h, List.set_cons_zero, mvd, List.take_add_one, h]
  simp
theorem bnd_any_ok (r : Rc) : (bnd r).Ok := by
  rcases bnd_cases r with h | h
  · cases he : emp r
    · rw [bnd_full he, oft]
      split
      · exact rz_ok
      · rename_i hh
        rw [bnd_full he, oft, if_neg hh] at h
        simp [emp] at h
        omega
    · rw [bnd_emp he]; exact rz_ok
  · exact h.ok
theorem flt_shl (l : List Rc) (x y : Int) : flt (mvd l x y l.length) = shl l x y := by
  rw [mvd, List.take_length, List.drop_length, List.append_nil]
  rfl

end Go.Proofs.YtmiapccngeafkaaDoor

/- The document's Has, in, Same, add; SameRects. -/
namespace Go.Proofs.YtmiapccngeafkaaDoor
open Go Go.RowKit

/-- The same rectangles. -/
def eqr : List Rc → List Rc → Bool
  | [], [] => true
  | x :: l, y :: m => rceq x y && eqr l m
  | _, _ => false
theorem eqr_cons (x y : Rc) (l m : List Rc) : eqr (x :: l) (y :: m) = (rceq x y && eqr l m) := rfl
theorem eqr_iff : ∀ {l m : List Rc}, eqr l m = true ↔ l = m
  | [], [] => by simp [eqr]
  | [], _ :: _ => by simp [eqr]
  | _ :: _, [] => by simp [eqr]
  | x :: l, y :: m => by rw [eqr, Bool.and_eq_true, rceq_iff, eqr_iff, List.cons.injEq]
theorem eqr_len {l m : List Rc} (h : l.length ≠ m.length) : eqr l m = false := by
  rw [← Bool.not_eq_true, eqr_iff]
  intro e
  exact h (by rw [e])
theorem eqr_same (l : List Rc) : eqr l l = true := eqr_iff.2 rfl




/-- The document's ways: 0, 1, 2. -/
def fH (how : Int) : Bool → Bool → Bool := if how = 1 then sub else if how = 2 then and else or
theorem fH_ff (how : Int) : fH how false false = false := by
  unfold fH
  split
  · rfl
  · split <;> rfl


/-- What is still to come of add. -/
def rstA (v : Int) (d : Bool) (l : List Int) : List Int := if d = true then l else addE l v
theorem rstA_lt {v k : Int} {t : List Int} (h : v < k) : rstA v false (k :: t) = v :: k :: t := by rw [rstA, if_neg (by decide), addE, if_pos h]
theorem rstA_eq {v k : Int} {t : List Int} (h : v = k) : rstA v false (k :: t) = k :: t := by rw [rstA, if_neg (by decide), addE, if_neg (by omega), if_pos h]
theorem rstA_gt {v k : Int} {t : List Int} (h : k < v) : rstA v false (k :: t) = k :: rstA v false t := by rw [rstA, if_neg (by decide), addE, if_neg (by omega), if_neg (by omega), rstA, if_neg (by decide)]

end Go.Proofs.YtmiapccngeafkaaDoor

/- The document's edges. -/
namespace Go.Proofs.YtmiapccngeafkaaDoor
open Go Go.RowKit

theorem xs_snoc {l : List Rc} {j : Nat} {r : Rc} (h : l[j]? = some r) : xsOf (l.take (j + 1)) = addE (addE (xsOf (l.take j)) r.x) (r.x + r.w) := by
  rw [List.take_add_one, h]
  simp [xsOf]
theorem ys_snoc {l : List Rc} {j : Nat} {r : Rc} (h : l[j]? = some r) : ysOf (l.take (j + 1)) = addE (addE (ysOf (l.take j)) r.y) (r.y + r.h) := by
  rw [List.take_add_one, h]
  simp [ysOf]

end Go.Proofs.YtmiapccngeafkaaDoor

/- The document's row. -/
namespace Go.Proofs.YtmiapccngeafkaaDoor
open Go Go.RowKit

/-- Numbers that may be added and taken. -/
structure Sm (r : Rc) : Prop where
  x : -16777216 ≤ r.x ∧ r.x ≤ 16777216
  y : -16777216 ≤ r.y ∧ r.y ≤ 16777216
  w : -33554432 ≤ r.w ∧ r.w ≤ 33554432
  h : -33554432 ≤ r.h ∧ r.h ≤ 33554432
theorem Sm.ok {r : Rc} (h : Sm r) : r.Ok := by
  obtain ⟨h1, h2, h3, h4⟩ := h
  exact ⟨by omega, by omega, by omega, by omega⟩

theorem CI.set {u : World} {b o q k : Nat} {y : Int} (h : CI u b o y) (hn : b ≠ q ∨ o ≠ k) (v : Value) : CI (u.setCell ⟨q, k, none⟩ v) b o y :=
  ⟨by have := h.lt; simpa [World.setCell] using this, by
    rw [World.cell?_setCell_other _ _ _ _ (fun e => by
      have e1 := congrArg Addr.block e
      have e2 := congrArg Addr.off e
      simp only at e1 e2
      omega)]
    exact h.c⟩
theorem CI.drewN {u : World} {b o : Nat} {y : Int} (h : CI u b o y) (q : Nat) : CI (u.drewN q) b o y := ⟨h.lt, h.c⟩

theorem rccs_last (D : List Rc) (r : Rc) (z : Int) : (rccs (D ++ [r])).set (D.length * 4 + 2) (.int .i64 z) = rccs (D ++ [⟨r.x, r.y, z, r.h⟩]) := by
  rw [rccs_append, rccs_append, List.set_append_right _ _ (by rw [rccs_length]; omega), rccs_length]
  congr 1
  rw [show D.length * 4 + 2 - D.length * 4 = 2 by omega]
  rfl
theorem OwC.setW {w u : World} {g n c : Nat} {D : List Rc} {r : Rc} (h : OwC w u (.slice (some ⟨g, 0, none⟩) n c) (D ++ [r])) (hn : n = D.length + 1) (z : Int) : OwC w (u.setCell ⟨g, D.length * 4 + 2, none⟩ (.int .i64 z)) (.slice (some ⟨g, 0, none⟩) n c) (D ++ [⟨r.x, r.y, z, r.h⟩]) := by
  have h1 := h.own
  have e : (D ++ [r]).length = n := by simp [hn]
  rw [e] at h1
  have hg := (h1.lt g rfl).1
  have h2 := (h1.stored (D.length * 4 + 2) (.int .i64 z)).1
  rw [rccs_last] at h2
  refine ⟨?_, h.bel.setCell (p := ⟨g, _, none⟩) hg _⟩
  rw [show (D ++ [(⟨r.x, r.y, z, r.h⟩ : Rc)]).length = n by simp [hn]]
  exact h2
theorem OwC.form {w u : World} {v : Value} {l : List Rc} (h : OwC w u v l) (hl : l ≠ []) : ∃ g c, v = .slice (some ⟨g, 0, none⟩) l.length c := by
  rcases h.own.2 with ⟨rfl, h0⟩ | ⟨g, cap, cur, rfl, _⟩
  · exact absurd (List.eq_nil_of_length_eq_zero h0) hl
  · exact ⟨g, cap, rfl⟩
theorem OwC.small {w u : World} {g n c : Nat} {l : List Rc} (h : OwC w u (.slice (some ⟨g, 0, none⟩) n c) l) (hn : l.length = n) : n ≤ c ∧ c ≤ 9223372036854775807 := by
  have h1 := h.own
  rw [hn] at h1
  rcases h1.2 with ⟨e, _⟩ | ⟨g', cap, cur, e, _, _, h2, h3, _⟩
  · cases e
  · cases e
    simp only [maxLen] at h3
    omega

theorem rstep_nil (F : Int → Bool) (y h : Int) {x : Int} (hx : F x = true) (x' : Int) : rstep F y h [] x x' = [⟨x, y, x' - x, h⟩] := by rw [rstep, if_neg (by rw [hx]; decide)]; rfl
theorem rstep_eq (F : Int → Bool) (y h : Int) (D : List Rc) (r : Rc) {x : Int} (hx : F x = true) (he : r.x + r.w = x) (x' : Int) : rstep F y h (D ++ [r]) x x' = D ++ [⟨r.x, r.y, x' - r.x, r.h⟩] := by
  rw [rstep, if_neg (by rw [hx]; decide), List.getLast?_concat]
  simp only
  rw [if_pos he, List.dropLast_concat]
theorem rstep_ne (F : Int → Bool) (y h : Int) (D : List Rc) (r : Rc) {x : Int} (hx : F x = true) (he : r.x + r.w ≠ x) (x' : Int) : rstep F y h (D ++ [r]) x x' = (D ++ [r]) ++ [⟨x, y, x' - x, h⟩] := by
  rw [rstep, if_neg (by rw [hx]; decide), List.getLast?_concat]
  simp only
  rw [if_neg he]

end Go.Proofs.YtmiapccngeafkaaDoor

/- The document's alike. -/
namespace Go.Proofs.YtmiapccngeafkaaDoor
open Go Go.RowKit

theorem alk_cons (p q : Rc) (l m : List Rc) : alk (p :: l) (q :: m) = (decide (p.y + p.h = q.y) && eqs (p :: l) (q :: m)) := by
  rw [alk, eqs]
  congr 1
  congr 1
  rw [Bool.eq_iff_iff]
  simp

end Go.Proofs.YtmiapccngeafkaaDoor

/- An append onto a row of the call's own, and where the new row lies. Over any program. -/
namespace Go.Proofs.YtmiapccngeafkaaDoor
open Go Go.RowKit

section
variable {P : Program} (w : World)
/-- As 'run_append_own_src', and where the new row lies. -/
theorem run_append_own_at (base : Nat) (t tx ty e : TypeId) (i : TypeInfo) (z : Value) (size bytes : Nat) (ht : P.underlying t = some (.slice e)) (hi : P.info? e = some i) (hz : i.zero = some z)
    (hsize : i.size = size) (hby : i.bytes = bytes) (hzs : z.cells.size = size)
    (v : Value) (n : Nat) (xs : List Value) (hown : w.ownsRow base e size v n xs)
    (x : Value) (m : Nat) (news : List Value) (hs : Src P size tx x m news w)
    (h63 : n + m ≤ maxLen) (hbytes : ∀ old, old < n + m → Builtin.nextslicecap (n + m) old * bytes ≤ 281474976710656) (hbase : base ≤ w.heap.size) :
    ∃ v' w', (Builtin.append_ #[t, tx] ty #[v, x]).run P w = .ok v' w' ∧ w'.ownsRow base e size v' (n + m) (xs ++ news) ∧ w.grownBy w' v.ownBlock ∧ (v'.ownBlock = v.ownBlock ∨ v'.ownBlock = some w.heap.size) := by
  obtain ⟨v', w', hr, h1, h2⟩ := run_append_own_src (P := P) w base t tx ty e i z size bytes ht hi hz hsize hby hzs v n xs hown x m news hs h63 hbytes hbase
  refine ⟨v', w', hr, h1, h2, ?_⟩
  subst hsize
  subst hby
  have hl := hs.newsLen
  have hsmall : n + m ≤ 9223372036854775807 := by simp only [maxLen] at h63; omega
  rcases hown.2 with ⟨rfl, rfl⟩ | ⟨g, cap, cur, rfl, hbg, hg, hnc, hcm, hcs, htake⟩
  · by_cases hm : m = 0
    · subst hm
      have hn : news = [] := List.eq_nil_of_length_eq_zero (by simpa using hl)
      subst hn
      have hr' : (Builtin.append_ #[t, tx] ty #[.slice none 0 0, x]).run P w = .ok (.slice none 0 0) w := by
        rcases hs.kind with ⟨e', hk⟩ | hk <;> simp [Builtin.append_, run_underlying ht, run_underlying hk, sizeOf, typeInfo, hi, hs.len, hs.cells]
      have := hr.symm.trans hr'
      simp only [Result.ok.injEq] at this
      exact .inl (by rw [this.1])
    · have hr' := run_append_grow_src (P := P) w t tx ty e i z ht hi hz none 0 0 [] (run_firstCells_none w.drew i.size 0 0 0) x m news hs (by omega) (by omega) (hbytes _ (by omega))
      have := hr.symm.trans hr'
      simp only [Result.ok.injEq] at this
      exact .inr (by rw [this.1]; rfl)
  · by_cases hroom : n + m ≤ cap
    · have hfit : n * i.size + news.length ≤ cur.size := by rw [hl, hcs, ← Nat.add_mul]; exact Nat.mul_le_mul_right _ hroom
      have hr' := run_append_room_own (P := P) (ty := ty) w t tx e i ht hi g n cap cur hg x m news hs hroom hfit
      have := hr.symm.trans hr'
      simp only [Result.ok.injEq] at this
      exact .inl (by rw [this.1]; rfl)
    · have holds : ∀ j u, xs[j]? = some u → w.cell? ((⟨g, 0, none⟩ : Addr).add j) = some u := hown.cells (g := g) rfl
      have hold := run_firstCells_some (P := P) w.drew i.size n ⟨g, 0, none⟩ n cap xs hown.1 (by simpa using holds)
      have hr' := run_append_grow_src (P := P) w t tx ty e i z ht hi hz (some ⟨g, 0, none⟩) n cap xs hold x m news hs (by omega) (by omega) (hbytes _ (by omega))
      have := hr.symm.trans hr'
      simp only [Result.ok.injEq] at this
      exact .inr (by rw [this.1]; rfl)

theorem wpList_append_own_at {ops : Array Oper} {rest : List Oper} {o : Oper} {a : Act} {Q : Exit → Act → World → Prop} (hgd : o.guard = none) (s x : Operand) (t tx : TypeId)
    (ho : o.op = .call { callee := .builtin .append, args := #[s, x], argTypes := #[t, tx] })
    (base : Nat) (e : TypeId) (i : TypeInfo) (z : Value) (size bytes : Nat) (ht : P.underlying t = some (.slice e)) (hi : P.info? e = some i) (hz : i.zero = some z)
    (hsize : i.size = size) (hby : i.bytes = bytes) (hzs : z.cells.size = size)
    (v : Value) (n : Nat) (xs : List Value) (hs : a.eval s = v) (hown : w.ownsRow base e size v n xs)
    (xv : Value) (m : Nat) (news : List Value) (hx : a.eval x = xv) (hsrc : Src P size tx xv m news w)
    (h63 : n + m ≤ maxLen) (hbytes : ∀ old, old < n + m → Builtin.nextslicecap (n + m) old * bytes ≤ 281474976710656) (hbase : base ≤ w.heap.size)
    (h : ∀ v' w', w'.ownsRow base e size v' (n + m) (xs ++ news) → w.grownBy w' v.ownBlock → (v'.ownBlock = v.ownBlock ∨ v'.ownBlock = some w.heap.size) → wpList P ops Q rest (a.put o.dst v') w') : wpList P ops Q (o :: rest) a w :=
  wpList_plain hgd fun K hK => by
    obtain ⟨v', w', hr, h2, h3, h4⟩ := run_append_own_at (P := P) w base t tx o.type e i z size bytes ht hi hz hsize hby hzs v n xs hown xv m news hsrc h63 hbytes hbase
    unfold Oper.wp execOp
    simp only [ho, resolve, invoke, builtin, Sem.run_bind, Sem.run_pure, Result.andThen_ok, List.map_toArray, List.map_cons, List.map_nil, hs, hx, hr]
    exact hK _ _ (h v' w' h2 h3 h4)
end
end Go.Proofs.YtmiapccngeafkaaDoor
