/- Lemmas that the proof leans on. -/
import Derived.Test.YtkjempffidndeaaGreatDoorB03
namespace Go.Proofs.YtkjempffidndeaaGreatDoor
open Go Go.RowKit
section
theorem Anc.trans {F : Fo} {x y z : Int} (h : Anc F x y) (h' : Anc F y z) : Anc F x z := by
 induction h with
 | self _ => exact h'
 | up h1 _ ih => exact .up h1 (ih h')
theorem Anc.has {F : Fo} {x y : Int} (h : Anc F x y) : (gt F x).isSome = true := by
 cases h with
 | self h => rw [h]; rfl
 | up h _ => rw [h]; rfl
theorem filter_lt {α : Type} {l : List α} {p q : α → Bool} (h : ∀ x, p x = true → q x = true) {a : α} (ha : a ∈ l) (hp : p a = false) (hq : q a = true) : (l.filter p).length < (l.filter q).length := by
 induction l with
 | nil => cases ha
 | cons x l ih =>
  have hle : ∀ l : List α, (l.filter p).length ≤ (l.filter q).length := fun l => by
   induction l with
   | nil => exact Nat.le_refl _
   | cons y l ih =>
    rw [List.filter_cons, List.filter_cons]
    cases hy : p y with
    | true => rw [h y hy]; simp only [if_true, List.length_cons]; omega
    | false =>
     rw [if_neg (by simp)]
     split
     ·rw [List.length_cons]; omega
     ·exact ih
  rw [List.filter_cons, List.filter_cons]
  rcases List.mem_cons.1 ha with rfl | ha
  ·rw [hp, hq, if_neg (by simp), if_pos rfl, List.length_cons]
   have := hle l
   omega
  ·have h1 := ih ha
   cases hy : p x with
   | true => rw [h x hy]; simp only [if_true, List.length_cons]; omega
   | false =>
    rw [if_neg (by simp)]
    split
    ·rw [List.length_cons]; omega
    ·exact h1
structure Acy (F : Fo) : Prop where
 no : ∀ x s, gt F x = some s → ¬ Anc F s.par x
 par : ∀ x s, gt F x = some s → s.par ≠ 0 → ∃ q, gt F s.par = some q
noncomputable def dpt (F : Fo) (x : Int) : Nat := ((keys F).filter fun y => anc F x y).length
theorem dpt_le (F : Fo) (x : Int) : dpt F x ≤ F.length := by
 refine Nat.le_trans (List.length_filter_le _ _) ?_
 rw [keys, List.length_map]
 exact Nat.le_refl _
theorem dpt_lt {F : Fo} (hA : Acy F) {x : Int} {s : Sf} (h : gt F x = some s) : dpt F s.par < dpt F x := by
 refine filter_lt (fun y hy => ?_) (a := x) (gt_some.1 (by rw [h]; rfl)) ?_ ?_
 ·exact anc_true.2 (.up h (anc_true.1 hy))
 ·rw [Bool.eq_false_iff, ne_eq, anc_true]
  exact hA.no x s h
 ·exact anc_true.2 (.self h)
structure Tre (F G : Fo) : Prop where
 keys : keys F = keys G
 same : ∀ x, (gt F x).map (fun s => (s.par, s.syn)) = (gt G x).map fun s => (s.par, s.syn)
theorem Tre.refl (F : Fo) : Tre F F := ⟨rfl, fun _ => rfl⟩
theorem Tre.symm {F G : Fo} (h : Tre F G) : Tre G F := ⟨h.keys.symm, fun x => (h.same x).symm⟩
theorem Tre.trans {F G H : Fo} (h : Tre F G) (h' : Tre G H) : Tre F H := ⟨h.keys.trans h'.keys, fun x => (h.same x).trans (h'.same x)⟩
theorem Tre.some {F G : Fo} (h : Tre F G) {x : Int} {s : Sf} (hs : gt F x = some s) : ∃ t, gt G x = some t ∧ t.par = s.par ∧ t.syn = s.syn := by
 have := h.same x
 rw [hs, Option.map_some] at this
 obtain ⟨t, ht, e⟩ := Option.map_eq_some_iff.1 this.symm
 simp only [Prod.mk.injEq] at e
 exact ⟨t, ht, e.1, e.2⟩
theorem Tre.none {F G : Fo} (h : Tre F G) {x : Int} (hs : gt F x = none) : gt G x = none := by
 have := h.same x
 rw [hs, Option.map_none] at this
 exact Option.map_eq_none_iff.1 this.symm
theorem Tre.anc {F G : Fo} (h : Tre F G) {x y : Int} (ha : Anc F x y) : Anc G x y := by
 induction ha with
 | self h1 =>
  obtain ⟨t, ht, _⟩ := h.some h1
  exact .self ht
 | up h1 _ ih =>
  obtain ⟨t, ht, e, _⟩ := h.some h1
  exact .up ht (by rw [e]; exact ih)
theorem Tre.syd {F G : Fo} (h : Tre F G) {x : Int} (ha : Syd F x) : Syd G x := by
 induction ha with
 | own h1 h2 h3 =>
  obtain ⟨t, ht, e, e'⟩ := h.some h1
  exact .own ht (by rw [e]; exact h2) (by rw [e']; exact h3)
 | up h1 h2 _ ih =>
  obtain ⟨t, ht, e, _⟩ := h.some h1
  exact .up ht (by rw [e]; exact h2) (by rw [e]; exact ih)
theorem Tre.sy {F G : Fo} (h : Tre F G) (x : Int) : sy F x = sy G x := by
 rw [Bool.eq_iff_iff, sy_true, sy_true]
 exact ⟨h.syd, h.symm.syd⟩
theorem Tre.dpt {F G : Fo} (h : Tre F G) (x : Int) : dpt F x = dpt G x := by
 unfold Go.Proofs.YtkjempffidndeaaGreatDoor.dpt
 rw [h.keys]
 congr 1
 refine List.filter_congr fun y _ => ?_
 rw [Bool.eq_iff_iff, anc_true, anc_true]
 exact ⟨h.anc, h.symm.anc⟩
theorem Tre.acy {F G : Fo} (h : Tre F G) (hA : Acy F) : Acy G := by
 refine ⟨fun x s hs ha => ?_, fun x s hs hp => ?_⟩
 ·obtain ⟨t, ht, e, _⟩ := h.symm.some hs
  exact hA.no x t ht (by rw [e]; exact h.symm.anc ha)
 ·obtain ⟨t, ht, e, _⟩ := h.symm.some hs
  obtain ⟨q, hq⟩ := hA.par x t ht (by rw [e]; exact hp)
  rw [e] at hq
  obtain ⟨q', hq', _⟩ := h.some hq
  exact ⟨q', hq'⟩
theorem tre_upd (F : Fo) (id : Int) (f : Sf → Sf) (hf : ∀ s, (f s).par = s.par ∧ (f s).syn = s.syn) : Tre F (upd F id f) := by
 refine ⟨(keys_upd F id f).symm, fun x => ?_⟩
 rw [gt_upd]
 split
 ·rename_i h
  subst h
  cases hx : gt F x with
  | none => rfl
  | some s => simp [(hf s).1, (hf s).2]
 ·rfl
def Kok (F : Fo) (x : Int) (s : Sf) : Prop := ∀ k, (k ∈ un1 s.pe.od ∨ k ∈ un1 s.ca.od ∨ k ∈ un1 s.no.od) → k ≠ 0 → ∃ c, gt F k = some c ∧ c.par = x
structure Inv (F : Fo) : Prop where
 nod : (keys F).Nodup
 pos : ∀ x ∈ keys F, 1 ≤ x
 len : F.length ≤ 40
 acy : Acy F
 kid : ∀ x s, gt F x = some s → Kok F x s
theorem Inv.zero {F : Fo} (h : Inv F) : gt F 0 = none := gt_none.2 fun hm => by
 have := h.pos 0 hm
 omega
theorem Inv.pos' {F : Fo} (h : Inv F) {x : Int} {s : Sf} (hs : gt F x = some s) : 1 ≤ x := h.pos x (gt_some.1 (by rw [hs]; rfl))
theorem inv_nil : Inv [] := ⟨List.nodup_nil, (fun _ h => by cases h), by decide, ⟨(fun _ _ h => by cases h), fun _ _ h => by cases h⟩, fun _ _ h => by cases h⟩
theorem Inv.turn {F : Fo} (h : Inv F) (id : Int) (f : Sf → Sf) (hf : ∀ s, (f s).par = s.par ∧ (f s).syn = s.syn) (hk : ∀ s, gt F id = some s → Kok F id (f s)) : Inv (upd F id f) := by
 have ht := tre_upd F id f hf
 have hkk : ∀ x s, Kok F x s → Kok (upd F id f) x s := fun x s hs k hk h0 => by
  obtain ⟨c, h1, h2⟩ := hs k hk h0
  obtain ⟨t, h3, h4, _⟩ := ht.some h1
  exact ⟨t, h3, by rw [h4, h2]⟩
 refine ⟨by rw [keys_upd]; exact h.nod, by rw [keys_upd]; exact h.pos, by rw [upd_length]; exact h.len, ht.acy h.acy, fun x s hs => ?_⟩
 rw [gt_upd] at hs
 split at hs
 ·rename_i e
  subst e
  obtain ⟨t, h1, rfl⟩ := Option.map_eq_some_iff.1 hs
  exact hkk _ _ (hk t h1)
 ·exact hkk _ _ (h.kid x s hs)
end
section
theorem mem_un1_sg {k : Int} {l : List Int} : k ∈ un1 (sg l) ↔ k ∈ l := by rw [un1_sg]
theorem mem_outL {k id : Int} {l : List (List Int)} (h : k ∈ un1 (outL id l)) : k ∈ un1 l ∧ k ≠ id := by
 obtain ⟨y, hy, rfl⟩ := List.mem_map.1 h
 obtain ⟨h1, h2⟩ := List.mem_filter.1 hy
 exact ⟨List.mem_map_of_mem h1, by simpa using h2⟩
theorem Kok.pe {F : Fo} {x : Int} {s t : Sf} (h : Kok F x s) (h1 : t.pe.od = s.pe.od) (h2 : t.ca = s.ca) (h3 : t.no = s.no) : Kok F x t := fun k hk => h k (by rw [← h1, ← h2, ← h3]; exact hk)
theorem kok_lat {F : Fo} {x : Int} {s : Sf} (h : Kok F x s) {k : Int} (hk : k ∈ un1 (lat s)) (h0 : k ≠ 0) : ∃ c, gt F k = some c ∧ c.par = x := by
 unfold lat at hk
 cases h1 : s.pe.ord with
 | true => rw [h1] at hk; exact h k (.inl hk) h0
 | false =>
  rw [h1] at hk
  cases h2 : s.ca.ord with
  | true => rw [h2] at hk; exact h k (.inr (.inl hk)) h0
  | false => rw [h2] at hk; exact h k (.inr (.inr hk)) h0
theorem kok_ord {F : Fo} {x : Int} {s : Sf} (h : Kok F x s) {l : List Int} (hl : ∀ k ∈ l, k ≠ 0 → ∃ c, gt F k = some c ∧ c.par = x) : Kok F x (ordS (sg l) s) := fun k hk h0 => by
 rcases hk with hk | hk | hk
 ·exact hl k (mem_un1_sg.1 hk) h0
 ·exact h k (.inr (.inl hk)) h0
 ·exact h k (.inr (.inr hk)) h0
theorem Inv.pend {F : Fo} (h : Inv F) (id : Int) (f : Sf → Sf) (hf : ∀ s, (f s).par = s.par ∧ (f s).syn = s.syn ∧ (f s).pe.od = s.pe.od ∧ (f s).ca = s.ca ∧ (f s).no = s.no) : Inv (upd F id f) :=
 h.turn id f (fun s => ⟨(hf s).1, (hf s).2.1⟩) fun s hs => (h.kid id s hs).pe (hf s).2.2.1 (hf s).2.2.2.1 (hf s).2.2.2.2
theorem Inv.att {F : Fo} (h : Inv F) (id b : Int) : Inv (upd F id (attS b)) := h.pend id _ fun _ => ⟨rfl, rfl, rfl, rfl, rfl⟩
theorem Inv.dmg {F : Fo} (h : Inv F) (id : Int) (r : List Int) : Inv (upd F id (dmgS r)) := h.pend id _ fun _ => ⟨rfl, rfl, rfl, rfl, rfl⟩
theorem Inv.frm {F : Fo} (h : Inv F) (id c : Int) : Inv (upd F id (frmS c)) := h.pend id _ fun _ => ⟨rfl, rfl, rfl, rfl, rfl⟩
theorem Inv.inp {F : Fo} (h : Inv F) (id : Int) (a : Bool) (l : List (List Int)) : Inv (upd F id (inpS a l)) := h.pend id _ fun _ => ⟨rfl, rfl, rfl, rfl, rfl⟩
theorem Inv.plc {F : Fo} (h : Inv F) (id : Int) (c : List Int) : Inv (upd F id (plcS c)) := h.pend id _ fun _ => ⟨rfl, rfl, rfl, rfl, rfl⟩
theorem Inv.posn {F : Fo} (h : Inv F) (id x y : Int) : Inv (posF F id x y) := by
 unfold posF
 split
 ·exact h
 ·split
  ·exact h
  ·exact h.plc _ _
theorem Inv.tak {F : Fo} (h : Inv F) (id : Int) : Inv (upd F id takS) := h.turn id takS (fun _ => ⟨rfl, rfl⟩) fun s hs k hk => h.kid id s hs k hk
theorem mem_bes {l m : List Int} {id by_ : Int} {b : Nat} (h : bes l id by_ b = some m) : ∀ k ∈ m, k ∈ l := fun k hk => by
 unfold bes at h
 cases hx : zx id l with
 | none => rw [hx] at h; cases h
 | some t =>
  rw [hx] at h
  obtain ⟨i, _, rfl⟩ := Option.map_eq_some_iff.1 h
  unfold ins at hk
  rcases List.mem_append.1 hk with hk | hk
  ·exact (mem_dr.1 (List.mem_of_mem_take hk)).1
  ·rcases List.mem_cons.1 hk with rfl | hk
   ·exact List.mem_of_getElem? (zx_some hx).2.1
   ·exact (mem_dr.1 (List.mem_of_mem_drop hk)).1
theorem putL_some {F : Fo} {id by_ : Int} {b : Nat} {p : Int} {m : List Int} (h : putL F id by_ b = some (p, m)) : ∃ s q, gt F id = some s ∧ s.par = p ∧ p ≠ 0 ∧ gt F p = some q ∧ ∀ k ∈ m, k ∈ un1 (lat q) := by
 unfold putL at h
 split at h
 ·cases h
 ·rename_i s hs
  split at h
  ·cases h
  ·rename_i h0
   split at h
   ·cases h
   ·rename_i q hq
    split at h
    ·obtain ⟨m', hm, e⟩ := Option.map_eq_some_iff.1 h
     cases e
     exact ⟨s, q, hs, rfl, h0, hq, mem_bes hm⟩
    ·split at h
     ·cases h
     ·obtain ⟨m', hm, e⟩ := Option.map_eq_some_iff.1 h
      cases e
      exact ⟨s, q, hs, rfl, h0, hq, mem_bes hm⟩
theorem Inv.put {F : Fo} (h : Inv F) (id by_ : Int) (b : Nat) : Inv (putF F id by_ b) := by
 unfold putF
 split
 ·exact h
 ·rename_i p m hp
  obtain ⟨s, q, hs, hsp, h0, hq, hm⟩ := putL_some hp
  refine h.turn p _ (fun _ => ⟨rfl, rfl⟩) fun q' hq' => ?_
  rw [hq] at hq'
  cases hq'
  exact kok_ord (h.kid p q hq) fun k hk hk0 => kok_lat (h.kid p q hq) (hm k hk) hk0
theorem Inv.add {F : Fo} (h : Inv F) (id : Int) : Inv (addF F id) := by
 unfold addF
 split
 ·rename_i he
  unfold addE at he
  split at he
  ·cases he
  ·rename_i h1
   split at he
   ·cases he
   ·rename_i h2
    split at he
    ·cases he
    ·rename_i h3
     have hn : gt F id = none := by simpa using h2
     have hg : ∀ x, gt (F ++ [(id, sf0)]) x = if x = id then some sf0 else gt F x := fun x => by
      rw [gt_app]
      by_cases hx : x = id
      ·subst hx
       rw [hn]
       simp
      ·rw [if_neg hx]
       cases hgx : gt F x with
       | none => simp [show id ≠ x from fun e => hx e.symm]
       | some s => simp
     have hold : ∀ x s, gt F x = some s → gt (F ++ [(id, sf0)]) x = some s := fun x s hs => by
      rw [hg, if_neg (fun e => by rw [e, hn] at hs; cases hs)]
      exact hs
     have hkeys : keys (F ++ [(id, sf0)]) = keys F ++ [id] := by simp [keys]
     have hidn : id ∉ keys F := gt_none.1 hn
     have hanc : ∀ x y, Anc (F ++ [(id, sf0)]) x y → Anc F x y ∨ (x = id ∧ y = id) := fun x y ha => by
      induction ha with
      | self h1 =>
       rw [hg] at h1
       split at h1
       ·rename_i e
        exact .inr ⟨e, e⟩
       ·exact .inl (.self h1)
      | up h1 h2 ih =>
       rw [hg] at h1
       split at h1
       ·cases h1
        have := h2.has
        rw [hg] at this
        split at this
        ·rename_i e
         exact absurd e.symm (by show id ≠ 0; omega)
        ·rw [show (sf0.par) = 0 from rfl, h.zero] at this
         cases this
       ·rcases ih with ih | ⟨e1, e2⟩
        ·exact .inl (.up h1 ih)
        ·rename_i x' id' s' hne
         have hp0 : s'.par ≠ 0 := by rw [e1]; omega
         obtain ⟨q, hq⟩ := h.acy.par _ _ h1 hp0
         rw [e1, hn] at hq
         cases hq
     refine ⟨?_, ?_, ?_, ⟨fun x s hs ha => ?_, fun x s hs hp => ?_⟩, fun x s hs k hk h0 => ?_⟩
     ·rw [hkeys, List.nodup_append]
      refine ⟨h.nod, by simp, fun a ha b hb e => ?_⟩
      simp only [List.mem_singleton] at hb
      exact hidn (by rw [← hb, ← e]; exact ha)
     ·intro x hx
      rw [hkeys, List.mem_append] at hx
      rcases hx with hx | hx
      ·exact h.pos x hx
      ·simp only [List.mem_singleton] at hx
       omega
     ·rw [List.length_append, List.length_singleton]
      omega
     ·rw [hg] at hs
      split at hs
      ·cases hs
       have := ha.has
       rw [hg] at this
       split at this
       ·rename_i e
        exact absurd e.symm (by show id ≠ 0; omega)
       ·rw [show (sf0.par) = 0 from rfl, h.zero] at this
        cases this
      ·rename_i hne
       rcases hanc _ _ ha with ha | ⟨_, e⟩
       ·exact h.acy.no x s hs ha
       ·exact hne e
     ·rw [hg] at hs
      split at hs
      ·cases hs
       exact absurd rfl hp
      ·obtain ⟨q, hq⟩ := h.acy.par x s hs hp
       exact ⟨q, hold _ _ hq⟩
     ·rw [hg] at hs
      split at hs
      ·cases hs
       rcases hk with hk | hk | hk
       ·cases hk
       ·cases hk
       ·have : k = 0 := by simpa [un1, sf0, sqA, hd] using hk
        exact absurd this h0
      ·obtain ⟨c, h4, h5⟩ := h.kid x s hs k hk h0
       exact ⟨c, hold _ _ h4, h5⟩
 ·exact h
end
section
structure Les (F G : Fo) : Prop where
 old : ∀ x s, gt G x = some s → ∃ t, gt F x = some t ∧ (s.par = t.par ∨ s.par = 0)
 zero : gt G 0 = none
 par : ∀ x s, gt G x = some s → s.par ≠ 0 → ∃ q, gt G s.par = some q
theorem Les.anc {F G : Fo} (h : Les F G) {x y : Int} (ha : Anc G x y) : Anc F x y := by
 induction ha with
 | self h1 =>
  obtain ⟨t, ht, _⟩ := h.old _ _ h1
  exact .self ht
 | up h1 h2 ih =>
  obtain ⟨t, ht, e | e⟩ := h.old _ _ h1
  ·exact .up ht (by rw [← e]; exact ih)
  ·have := h2.has
   rw [e, h.zero] at this
   cases this
theorem Les.acy {F G : Fo} (h : Les F G) (hA : Acy F) : Acy G := by
 refine ⟨fun x s hs ha => ?_, h.par⟩
 obtain ⟨t, ht, e | e⟩ := h.old _ _ hs
 ·exact hA.no x t ht (by rw [← e]; exact h.anc ha)
 ·have := ha.has
  rw [e, h.zero] at this
  cases this
theorem Inv.self_ne {F : Fo} (h : Inv F) {x : Int} {s : Sf} (hs : gt F x = some s) : s.par ≠ x := fun e => h.acy.no x s hs (by rw [e]; exact .self hs)
theorem unsF_gt {F : Fo} (h : Inv F) {id : Int} {s : Sf} (hs : gt F id = some s) (h0 : s.par ≠ 0) (x : Int) : gt (unsF F id) x = if x = id then some { s with par := 0 } else if x = s.par then (gt F x).map (outS id) else gt F x := by
 have hne := h.self_ne hs
 unfold unsF
 rw [hs]
 dsimp only
 rw [if_neg h0, gt_upd]
 by_cases hx : x = id
 ·rw [if_pos hx, if_pos hx, gt_upd, if_neg (fun e => hne e.symm), hs]
  rfl
 ·rw [if_neg hx, if_neg hx, gt_upd]
  by_cases hp : x = s.par
  ·rw [if_pos hp, if_pos hp, hp]
  ·rw [if_neg hp, if_neg hp]
theorem unsF_keys (F : Fo) (id : Int) : keys (unsF F id) = keys F := by
 unfold unsF
 split
 ·rfl
 ·split
  ·rfl
  ·rw [keys_upd, keys_upd]
theorem unsF_length (F : Fo) (id : Int) : (unsF F id).length = F.length := by
 have h := congrArg List.length (unsF_keys F id)
 simpa only [keys, List.length_map] using h
theorem unsF_none {F : Fo} {id : Int} (h : unsE F id ≠ 0) : unsF F id = F := by
 unfold unsE at h
 unfold unsF
 split
 ·rfl
 ·rename_i s hs
  rw [hs] at h
  dsimp only at h
  split
  ·rfl
  ·rename_i h0
   rw [if_neg h0] at h
   exact absurd rfl h
theorem unsF_cases {F : Fo} (h : Inv F) {id : Int} {s : Sf} (hs : gt F id = some s) (h0 : s.par ≠ 0) {x : Int} {t : Sf} (ht : gt (unsF F id) x = some t) : ∃ u, gt F x = some u ∧ t.par = (if x = id then 0 else u.par) ∧ (t = { u with par := t.par } ∨ (x = s.par ∧ t = outS id u)) := by
 rw [unsF_gt h hs h0] at ht
 split at ht
 ·rename_i e
  subst e
  cases ht
  exact ⟨s, hs, by rw [if_pos rfl], .inl rfl⟩
 ·rename_i hx
  split at ht
  ·rename_i e
   obtain ⟨u, hu, rfl⟩ := Option.map_eq_some_iff.1 ht
   exact ⟨u, hu, by rw [if_neg hx]; rfl, .inr ⟨e, rfl⟩⟩
  ·exact ⟨t, ht, by rw [if_neg hx], .inl rfl⟩
theorem Inv.uns {F : Fo} (h : Inv F) (id : Int) : Inv (unsF F id) := by
 by_cases he : unsE F id = 0
 ·obtain ⟨s, hs, h0⟩ : ∃ s, gt F id = some s ∧ s.par ≠ 0 := by
   unfold unsE at he
   split at he
   ·cases he
   ·rename_i s hs
    split at he
    ·cases he
    ·rename_i h0
     exact ⟨s, hs, h0⟩
  have hsome : ∀ x u, gt F x = some u → ∃ t, gt (unsF F id) x = some t ∧ (x ≠ id → t.par = u.par) := fun x u hu => by
   rw [unsF_gt h hs h0]
   by_cases hx : x = id
   ·rw [if_pos hx]
    exact ⟨_, rfl, fun e => absurd hx e⟩
   ·rw [if_neg hx]
    by_cases hp : x = s.par
    ·rw [if_pos hp, hu]
     exact ⟨_, rfl, fun _ => rfl⟩
    ·rw [if_neg hp, hu]
     exact ⟨_, rfl, fun _ => rfl⟩
  have hz : gt (unsF F id) 0 = none := by
   rw [gt_none, unsF_keys]
   exact gt_none.1 h.zero
  have hl : Les F (unsF F id) := by
   refine ⟨fun x t ht => ?_, hz, fun x t ht hp => ?_⟩
   ·obtain ⟨u, hu, e, _⟩ := unsF_cases h hs h0 ht
    refine ⟨u, hu, ?_⟩
    rw [e]
    split
    ·exact .inr rfl
    ·exact .inl rfl
   ·obtain ⟨u, hu, e, _⟩ := unsF_cases h hs h0 ht
    by_cases hx : x = id
    ·rw [if_pos hx] at e
     exact absurd e hp
    ·rw [if_neg hx] at e
     rw [e] at hp
     obtain ⟨q, hq⟩ := h.acy.par x u hu hp
     obtain ⟨t', ht', _⟩ := hsome _ _ hq
     rw [e]
     exact ⟨t', ht'⟩
  refine ⟨by rw [unsF_keys]; exact h.nod, by rw [unsF_keys]; exact h.pos, by rw [unsF_length]; exact h.len, hl.acy h.acy, fun x t ht k hk hk0 => ?_⟩
  obtain ⟨u, hu, e, hc⟩ := unsF_cases h hs h0 ht
  obtain ⟨hku, hne⟩ : (k ∈ un1 u.pe.od ∨ k ∈ un1 u.ca.od ∨ k ∈ un1 u.no.od) ∧ k ≠ id := by
   rcases hc with hc | ⟨hxp, hc⟩
   ·rw [hc] at hk
    refine ⟨hk, fun ek => ?_⟩
    obtain ⟨c, h1, h2⟩ := h.kid x u hu k hk hk0
    rw [ek, hs] at h1
    cases h1
    obtain rfl : s.par = x := h2
    rw [unsF_gt h hs h0, if_neg (h.self_ne hs), if_pos rfl, hu] at ht
    have e1 : outS id u = t := Option.some.inj ht
    rw [← e1] at hc
    have e2 : (outS id u).pe.od = u.pe.od ∧ (outS id u).ca.od = u.ca.od ∧ (outS id u).no.od = u.no.od := by rw [hc]; exact ⟨rfl, rfl, rfl⟩
    rcases hk with hk | hk | hk
    ·rw [← e2.1] at hk; exact (mem_outL hk).2 ek
    ·rw [← e2.2.1] at hk; exact (mem_outL hk).2 ek
    ·rw [← e2.2.2] at hk; exact (mem_outL hk).2 ek
   ·rw [hc] at hk
    rcases hk with hk | hk | hk
    ·exact ⟨.inl (mem_outL hk).1, (mem_outL hk).2⟩
    ·exact ⟨.inr (.inl (mem_outL hk).1), (mem_outL hk).2⟩
    ·exact ⟨.inr (.inr (mem_outL hk).1), (mem_outL hk).2⟩
  obtain ⟨c, h1, h2⟩ := h.kid x u hu k hku hk0
  obtain ⟨c', h3, h4⟩ := hsome _ _ h1
  exact ⟨c', h3, by rw [h4 hne, h2]⟩
 ·rw [unsF_none he]
  exact h
theorem unsF_par {F : Fo} (h : Inv F) {id : Int} {t : Sf} (ht : gt (unsF F id) id = some t) : t.par = 0 := by
 by_cases he : unsE F id = 0
 ·unfold unsE at he
  split at he
  ·cases he
  ·rename_i s hs
   split at he
   ·cases he
   ·rename_i h0
    rw [unsF_gt h hs h0, if_pos rfl] at ht
    cases ht
    rfl
 ·rw [unsF_none he] at ht
  unfold unsE at he
  rw [ht] at he
  dsimp only at he
  split at he
  ·rename_i h0
   exact h0
  ·exact absurd rfl he
def selfS (id : Int) (s : Sf) : Sf := if s.par = id then { s with par := 0 } else s
theorem gt_map (F : Fo) (f : Sf → Sf) (x : Int) : gt (F.map fun e => (e.1, f e.2)) x = (gt F x).map f := by
 induction F with
 | nil => rfl
 | cons e F ih =>
  rw [List.map_cons, gt, gt]
  split
  ·rfl
  ·exact ih
theorem keys_map (F : Fo) (f : Sf → Sf) : keys (F.map fun e => (e.1, f e.2)) = keys F := by simp [keys]
theorem drpF_eq {F : Fo} {id : Int} {s : Sf} (hs : gt F id = some s) : drpF F id = (rm (unsF F id) id).map fun e => (e.1, selfS id e.2) := by
 unfold drpF
 rw [hs]
 rfl
theorem drpF_gt {F : Fo} {id : Int} {s : Sf} (hs : gt F id = some s) (x : Int) : gt (drpF F id) x = if x = id then none else (gt (unsF F id) x).map (selfS id) := by
 rw [drpF_eq hs, gt_map, gt_rm]
 split
 ·rfl
 ·rfl
theorem Inv.drp {F : Fo} (h : Inv F) (id : Int) : Inv (drpF F id) := by
 cases hs : gt F id with
 | none =>
  unfold drpF
  rw [hs]
  exact h
 | some s =>
  have hU := h.uns id
  have hid1 := h.pos' hs
  have hk : keys (drpF F id) = (keys (unsF F id)).filter fun k => decide (k ≠ id) := by
   rw [drpF_eq hs, keys_map, keys, rm, keys, List.filter_map]
   rfl
  have hcase : ∀ x t, gt (drpF F id) x = some t → x ≠ id ∧ ∃ u, gt (unsF F id) x = some u ∧ t = selfS id u := fun x t ht => by
   rw [drpF_gt hs] at ht
   split at ht
   ·cases ht
   ·rename_i hx
    obtain ⟨u, hu, e⟩ := Option.map_eq_some_iff.1 ht
    exact ⟨hx, u, hu, e.symm⟩
  have hpar : ∀ u, (selfS id u).par = if u.par = id then 0 else u.par := fun u => by
   unfold selfS
   split <;> rfl
  have hl : Les (unsF F id) (drpF F id) := by
   refine ⟨fun x t ht => ?_, ?_, fun x t ht hp => ?_⟩
   ·obtain ⟨_, u, hu, rfl⟩ := hcase x t ht
    refine ⟨u, hu, ?_⟩
    rw [hpar]
    split
    ·exact .inr rfl
    ·exact .inl rfl
   ·rw [drpF_gt hs, if_neg (by omega), hU.zero]
    rfl
   ·obtain ⟨_, u, hu, rfl⟩ := hcase x t ht
    rw [hpar] at hp ⊢
    split at hp
    ·exact absurd rfl hp
    ·rename_i hpi
     rw [if_neg hpi]
     obtain ⟨q, hq⟩ := hU.acy.par x u hu hp
     rw [drpF_gt hs, if_neg hpi, hq]
     exact ⟨_, rfl⟩
  refine ⟨by rw [hk]; exact hU.nod.sublist List.filter_sublist, fun x hx => ?_, ?_, hl.acy hU.acy, fun x t ht k hk' hk0 => ?_⟩
  ·rw [hk] at hx
   exact hU.pos x (List.mem_filter.1 hx).1
  ·rw [drpF_eq hs, List.length_map]
   exact Nat.le_trans (rm_length _ _) hU.len
  ·obtain ⟨hx, u, hu, rfl⟩ := hcase x t ht
   have hk2 : k ∈ un1 u.pe.od ∨ k ∈ un1 u.ca.od ∨ k ∈ un1 u.no.od := by
    unfold selfS at hk'
    split at hk' <;> exact hk'
   obtain ⟨c, h1, h2⟩ := hU.kid x u hu k hk2 hk0
   have hki : k ≠ id := fun e => by
    rw [e] at h1
    have := unsF_par h h1
    have h3 := hU.pos' hu
    omega
   refine ⟨selfS id c, by rw [drpF_gt hs, if_neg hki, h1]; rfl, ?_⟩
   rw [hpar, h2, if_neg hx]
end
section
def subP (id : Int) (q : Sf) : Sf := plcS [id, 0, 0] (ordS (sg (dr id (un1 (lat q)) ++ [id])) q)
theorem subE_zero {F : Fo} {id p : Int} (h : subE F id p = 0) : ∃ s q, gt F id = some s ∧ gt F p = some q ∧ s.par = 0 ∧ ¬ Anc F p id := by
 unfold subE at h
 split at h
 ·rename_i s q hs hq
  split at h
  ·cases h
  ·rename_i h0
   split at h
   ·cases h
   ·rename_i ha
    exact ⟨s, q, hs, hq, by simpa using h0, fun hh => ha (anc_true.2 hh)⟩
 ·cases h
theorem subF_gt {F : Fo} {id p : Int} (h : subE F id p = 0) (x : Int) : gt (subF F id p) x = if x = p then (gt F p).map (subP id) else if x = id then (gt F id).map (fun s => { s with par := p, syn := true }) else gt F x := by
 obtain ⟨s, q, hs, hq, _, ha⟩ := subE_zero h
 have hne : p ≠ id := fun e => ha (by rw [← e]; exact .self hq)
 unfold subF
 rw [if_pos h, gt_upd]
 by_cases hx : x = p
 ·rw [if_pos hx, if_pos hx, gt_upd, if_neg hne]
  rfl
 ·rw [if_neg hx, if_neg hx, gt_upd]
theorem subF_keys (F : Fo) (id p : Int) : keys (subF F id p) = keys F := by
 unfold subF
 split
 ·rw [keys_upd, keys_upd]
 ·rfl
theorem subF_length (F : Fo) (id p : Int) : (subF F id p).length = F.length := by
 have h := congrArg List.length (subF_keys F id p)
 simpa only [keys, List.length_map] using h
theorem Inv.sub {F : Fo} (h : Inv F) (id p : Int) : Inv (subF F id p) := by
 by_cases he : subE F id p = 0
 ·obtain ⟨s, q, hs, hq, h0, ha⟩ := subE_zero he
  have hne : p ≠ id := fun e => ha (by rw [← e]; exact .self hq)
  have hp1 := h.pos' hq
  have hcase : ∀ x t, gt (subF F id p) x = some t → ∃ u, gt F x = some u ∧ (x = id → t.par = p) ∧ (x ≠ id → t.par = u.par) := fun x t ht => by
   rw [subF_gt he] at ht
   split at ht
   ·rename_i e
    subst e
    rw [hq] at ht
    cases ht
    exact ⟨q, hq, fun e => absurd e hne, fun _ => rfl⟩
   ·split at ht
    ·rename_i e
     subst e
     rw [hs] at ht
     cases ht
     exact ⟨s, hs, fun _ => rfl, fun e => absurd rfl e⟩
    ·rename_i e
     exact ⟨t, ht, fun e' => absurd e' e, fun _ => rfl⟩
  have hsome : ∀ x u, gt F x = some u → ∃ t, gt (subF F id p) x = some t ∧ (x = id → t.par = p) ∧ (x ≠ id → t.par = u.par) := fun x u hu => by
   have : (gt (subF F id p) x).isSome = true := by
    rw [gt_some, subF_keys, ← gt_some, hu]
    rfl
   obtain ⟨t, ht⟩ := Option.isSome_iff_exists.1 this
   obtain ⟨u', hu', h1, h2⟩ := hcase x t ht
   rw [hu] at hu'
   cases hu'
   exact ⟨t, ht, h1, h2⟩
  have hanc : ∀ y z, Anc (subF F id p) y z → Anc F y z ∨ (Anc F y id ∧ Anc F p z) := fun y z hh => by
   induction hh with
   | self h1 =>
    obtain ⟨u, hu, _⟩ := hcase _ _ h1
    exact .inl (.self hu)
   | up h1 _ ih =>
    rename_i y' z' t _
    obtain ⟨u, hu, e1, e2⟩ := hcase _ _ h1
    by_cases hy : y' = id
    ·rw [e1 hy] at ih
     rcases ih with ih | ⟨ih, _⟩
     ·exact .inr ⟨by rw [hy]; exact .self hs, ih⟩
     ·exact absurd ih ha
    ·rw [e2 hy] at ih
     rcases ih with ih | ⟨ih, ih2⟩
     ·exact .inl (.up hu ih)
     ·exact .inr ⟨.up hu ih, ih2⟩
  have hkk : ∀ x k, (∃ c, gt F k = some c ∧ c.par = x) → x ≠ 0 → ∃ c, gt (subF F id p) k = some c ∧ c.par = x := fun x k hc hx => by
   obtain ⟨c, h1, h2⟩ := hc
   obtain ⟨t, h3, _, h4⟩ := hsome _ _ h1
   refine ⟨t, h3, ?_⟩
   rw [h4 (fun e => by
    rw [e, hs] at h1
    cases h1
    exact hx (by rw [← h2, h0]))]
   exact h2
  refine ⟨by rw [subF_keys]; exact h.nod, by rw [subF_keys]; exact h.pos, by rw [subF_length]; exact h.len, ⟨fun x t ht hh => ?_, fun x t ht hp => ?_⟩, fun x t ht k hk hk0 => ?_⟩
  ·obtain ⟨u, hu, e1, e2⟩ := hcase x t ht
   by_cases hx : x = id
   ·rw [e1 hx, hx] at hh
    rcases hanc _ _ hh with hh | ⟨hh, _⟩
    ·exact ha hh
    ·exact ha hh
   ·rw [e2 hx] at hh
    rcases hanc _ _ hh with hh | ⟨hh, hh2⟩
    ·exact h.acy.no x u hu hh
    ·exact ha (hh2.trans (.up hu hh))
  ·obtain ⟨u, hu, e1, e2⟩ := hcase x t ht
   by_cases hx : x = id
   ·rw [e1 hx]
    obtain ⟨t', ht', _⟩ := hsome _ _ hq
    exact ⟨t', ht'⟩
   ·rw [e2 hx] at hp ⊢
    obtain ⟨q', hq'⟩ := h.acy.par x u hu hp
    obtain ⟨t', ht', _⟩ := hsome _ _ hq'
    exact ⟨t', ht'⟩
  ·rw [subF_gt he] at ht
   split at ht
   ·rename_i e
    subst e
    rw [hq] at ht
    cases ht
    rcases hk with hk | hk | hk
    ·rcases List.mem_append.1 (mem_un1_sg.1 hk) with hk | hk
     ·exact hkk _ _ (kok_lat (h.kid _ _ hq) (mem_dr.1 hk).1 hk0) (by omega)
     ·simp only [List.mem_singleton] at hk
      subst hk
      obtain ⟨t', h1, h2, _⟩ := hsome _ _ hs
      exact ⟨t', h1, h2 rfl⟩
    ·exact hkk _ _ (h.kid _ _ hq k (.inr (.inl hk)) hk0) (by omega)
    ·exact hkk _ _ (h.kid _ _ hq k (.inr (.inr hk)) hk0) (by omega)
   ·have hx1 : ∀ u, gt F x = some u → x ≠ 0 := fun u hu => by
     have := h.pos' hu
     omega
    split at ht
    ·rename_i e
     subst e
     rw [hs] at ht
     cases ht
     exact hkk _ _ (h.kid _ _ hs k hk hk0) (hx1 _ hs)
    ·exact hkk _ _ (h.kid _ _ ht k hk hk0) (hx1 _ ht)
 ·unfold subF
  rw [if_neg he]
  exact h
theorem Inv.syn {F : Fo} (h : Inv F) (id : Int) (on : Bool) : Inv (synF F id on) := by
 unfold synF
 split
 ·exact h
 ·rename_i s hs
  split
  ·exact h
  ·have hg : ∀ x, gt (st F id { s with syn := on }) x = if x = id then some { s with syn := on } else gt F x := fun x => by
    rw [gt_st, hs]
    rfl
   have hcase : ∀ x t, gt (st F id { s with syn := on }) x = some t → ∃ u, gt F x = some u ∧ t.par = u.par ∧ t.pe = u.pe ∧ t.ca = u.ca ∧ t.no = u.no := fun x t ht => by
    rw [hg] at ht
    split at ht
    ·rename_i e
     subst e
     cases ht
     exact ⟨s, hs, rfl, rfl, rfl, rfl⟩
    ·exact ⟨t, ht, rfl, rfl, rfl, rfl⟩
   have hsome : ∀ x u, gt F x = some u → ∃ t, gt (st F id { s with syn := on }) x = some t ∧ t.par = u.par := fun x u hu => by
    rw [hg]
    by_cases hx : x = id
    ·rw [if_pos hx]
     rw [hx, hs] at hu
     cases hu
     exact ⟨_, rfl, rfl⟩
    ·rw [if_neg hx]
     exact ⟨u, hu, rfl⟩
   have hl : Les F (st F id { s with syn := on }) := by
    refine ⟨fun x t ht => ?_, ?_, fun x t ht hp => ?_⟩
    ·obtain ⟨u, hu, e, _⟩ := hcase x t ht
     exact ⟨u, hu, .inl e⟩
    ·rw [gt_none, keys_st]
     exact gt_none.1 h.zero
    ·obtain ⟨u, hu, e, _⟩ := hcase x t ht
     rw [e] at hp ⊢
     obtain ⟨q, hq⟩ := h.acy.par x u hu hp
     obtain ⟨t', ht', _⟩ := hsome _ _ hq
     exact ⟨t', ht'⟩
   refine ⟨by rw [keys_st]; exact h.nod, by rw [keys_st]; exact h.pos, by rw [st, List.length_map]; exact h.len, hl.acy h.acy, fun x t ht k hk hk0 => ?_⟩
   obtain ⟨u, hu, e, e1, e2, e3⟩ := hcase x t ht
   rw [e1, e2, e3] at hk
   obtain ⟨c, h1, h2⟩ := h.kid x u hu k hk hk0
   obtain ⟨t', h3, h4⟩ := hsome _ _ h1
   exact ⟨t', h3, by rw [h4, h2]⟩
theorem mrg_mem {a b : Sq} {k : Int} (h : k ∈ un1 (mrg a b).od) : k ∈ un1 a.od ∨ k ∈ un1 b.od := by
 simp only [mrg] at h
 cases hb : b.ord with
 | true => rw [hb] at h; exact .inr h
 | false => rw [hb] at h; exact .inl h
theorem apl_mem {a b : Sq} {k : Int} (h : k ∈ un1 (apl a b).od) : k ∈ un1 a.od ∨ k ∈ un1 b.od := mrg_mem h
theorem kok_apl {F : Fo} {x : Int} {s : Sf} (h : Kok F x s) : Kok F x (aplS s) := fun k hk h0 => by
 rcases hk with hk | hk | hk
 ·exact h k (.inl hk) h0
 ·cases hk
 ·rcases apl_mem hk with hk | hk
  ·exact h k (.inr (.inr hk)) h0
  ·exact h k (.inr (.inl hk)) h0
def cacS (s : Sf) : Sf := { s with ca := mrg s.ca s.pe, pe := sq0 }
def comS (s : Sf) : Sf := { s with no := apl s.no (mrg s.ca s.pe), ca := sq0, pe := sq0 }
theorem kok_cac {F : Fo} {x : Int} {s : Sf} (h : Kok F x s) : Kok F x (cacS s) := fun k hk h0 => by
 rcases hk with hk | hk | hk
 ·cases hk
 ·rcases mrg_mem hk with hk | hk
  ·exact h k (.inr (.inl hk)) h0
  ·exact h k (.inl hk) h0
 ·exact h k (.inr (.inr hk)) h0
theorem kok_com {F : Fo} {x : Int} {s : Sf} (h : Kok F x s) : Kok F x (comS s) := fun k hk h0 => by
 rcases hk with hk | hk | hk
 ·cases hk
 ·cases hk
 ·rcases apl_mem hk with hk | hk
  ·exact h k (.inr (.inr hk)) h0
  ·rcases mrg_mem hk with hk | hk
   ·exact h k (.inr (.inl hk)) h0
   ·exact h k (.inl hk) h0
theorem Inv.apls {F : Fo} (h : Inv F) (id : Int) : Inv (upd F id aplS) := h.turn id aplS (fun _ => ⟨rfl, rfl⟩) fun s hs => kok_apl (h.kid id s hs)
theorem Inv.cacs {F : Fo} (h : Inv F) (id : Int) : Inv (upd F id cacS) := h.turn id cacS (fun _ => ⟨rfl, rfl⟩) fun s hs => kok_cac (h.kid id s hs)
theorem Inv.coms {F : Fo} (h : Inv F) (id : Int) : Inv (upd F id comS) := h.turn id comS (fun _ => ⟨rfl, rfl⟩) fun s hs => kok_com (h.kid id s hs)
noncomputable def kst (n : Nat) (r : Fo × List Int) (k : Int) : Fo × List Int := match gt r.1 k with
 | none => r
 | some c => if k = 0 ∨ sy r.1 k = false then r else if non c.ca then kds n r.1 k r.2 else kds n (upd r.1 k aplS) k (r.2 ++ [k])
theorem kds_succ (n : Nat) (F : Fo) (x : Int) (l : List Int) : kds (n + 1) F x l = match gt F x with
  | none => (F, l)
  | some s => (un1 s.no.od).foldl (kst n) (F, l) := rfl
theorem kds_inv : ∀ (n : Nat) (F : Fo) (x : Int) (l : List Int), Inv F → Inv (kds n F x l).1 ∧ Tre F (kds n F x l).1
 | 0, F, _, _, h => ⟨h, Tre.refl F⟩
 | n + 1, F, x, l, h => by
  rw [kds_succ]
  split
  ·exact ⟨h, Tre.refl F⟩
  ·rename_i s _
   have hst : ∀ (r : Fo × List Int) (k : Int), Inv r.1 → Inv (kst n r k).1 ∧ Tre r.1 (kst n r k).1 := fun r k hr => by
    unfold kst
    split
    ·exact ⟨hr, Tre.refl _⟩
    ·split
     ·exact ⟨hr, Tre.refl _⟩
     ·split
      ·exact kds_inv n _ _ _ hr
      ·have h1 := kds_inv n (upd r.1 k aplS) k (r.2 ++ [k]) (hr.apls k)
       exact ⟨h1.1, (tre_upd r.1 k aplS (fun _ => ⟨rfl, rfl⟩)).trans h1.2⟩
   have hf : ∀ (L : List Int) (r : Fo × List Int), Inv r.1 → Inv (L.foldl (kst n) r).1 ∧ Tre r.1 (L.foldl (kst n) r).1 := fun L => by
    induction L with
    | nil => exact fun r hr => ⟨hr, Tre.refl _⟩
    | cons k L ih =>
     intro r hr
     rw [List.foldl_cons]
     obtain ⟨h1, h2⟩ := hst r k hr
     obtain ⟨h3, h4⟩ := ih _ h1
     exact ⟨h3, h2.trans h4⟩
   exact hf _ (F, l) h
theorem comF_eq (n : Nat) (F : Fo) (id : Int) : comF n F id = match gt F id with
  | none => (F, [])
  | some _ => if sy F id then (upd F id cacS, []) else kds n (upd F id comS) id [id] := rfl
theorem Inv.com {F : Fo} (h : Inv F) (n : Nat) (id : Int) : Inv (comF n F id).1 := by
 rw [comF_eq]
 split
 ·exact h
 ·split
  ·exact h.cacs id
  ·exact (kds_inv n _ _ _ (h.coms id)).1
end
end Go.Proofs.YtkjempffidndeaaGreatDoor
