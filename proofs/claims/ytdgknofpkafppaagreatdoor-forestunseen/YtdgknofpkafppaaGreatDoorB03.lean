/- Lemmas that the proof leans on. -/
import Derived.Test.YtdgknofpkafppaaGreatDoorB02
namespace Go.Proofs.YtdgknofpkafppaaGreatDoor
open Go Go.RowKit
section
structure Les (F G : Fo) : Prop where
 old : ∀ x s, gt G x = some s → ∃ t, gt F x = some t ∧ (s.par = t.par ∨ s.par = 0)
 zero : gt G 0 = none
 par : ∀ x s, gt G x = some s → s.par ≠ 0 → ∃ q, gt G s.par = some q
theorem Les.anc {F G : Fo} (h : Les F G) {x y : Int} (ha : Anc G x y) : Anc F x y := by
 induction ha with
 | self h1 =>
  obtain ⟨t, ht, _⟩ := h.old _ _ h1
  exact .self ht
 | up h1 h2 ih =>
  obtain ⟨t, ht, e | e⟩ := h.old _ _ h1
  ·exact .up ht (by rw [← e]; exact ih)
  ·have := h2.has
   rw [e, h.zero] at this
   cases this
theorem Les.acy {F G : Fo} (h : Les F G) (hA : Acy F) : Acy G := by
 refine ⟨fun x s hs ha => ?_, h.par⟩
 obtain ⟨t, ht, e | e⟩ := h.old _ _ hs
 ·exact hA.no x t ht (by rw [← e]; exact h.anc ha)
 ·have := ha.has
  rw [e, h.zero] at this
  cases this
theorem Inv.self_ne {F : Fo} (h : Inv F) {x : Int} {s : Sf} (hs : gt F x = some s) : s.par ≠ x := fun e => h.acy.no x s hs (by rw [e]; exact .self hs)
theorem unsF_gt {F : Fo} (h : Inv F) {id : Int} {s : Sf} (hs : gt F id = some s) (h0 : s.par ≠ 0) (x : Int) : gt (unsF F id) x = if x = id then some { s with par := 0 } else if x = s.par then (gt F x).map (outS id) else gt F x := by
 have hne := h.self_ne hs
 unfold unsF
 rw [hs]
 dsimp only
 rw [if_neg h0, gt_upd]
 by_cases hx : x = id
 ·rw [if_pos hx, if_pos hx, gt_upd, if_neg (fun e => hne e.symm), hs]
  rfl
 ·rw [if_neg hx, if_neg hx, gt_upd]
  by_cases hp : x = s.par
  ·rw [if_pos hp, if_pos hp, hp]
  ·rw [if_neg hp, if_neg hp]
theorem unsF_keys (F : Fo) (id : Int) : keys (unsF F id) = keys F := by
 unfold unsF
 split
 ·rfl
 ·split
  ·rfl
  ·rw [keys_upd, keys_upd]
theorem unsF_length (F : Fo) (id : Int) : (unsF F id).length = F.length := by
 have h := congrArg List.length (unsF_keys F id)
 simpa only [keys, List.length_map] using h
theorem unsF_none {F : Fo} {id : Int} (h : unsE F id ≠ 0) : unsF F id = F := by
 unfold unsE at h
 unfold unsF
 split
 ·rfl
 ·rename_i s hs
  rw [hs] at h
  dsimp only at h
  split
  ·rfl
  ·rename_i h0
   rw [if_neg h0] at h
   exact absurd rfl h
theorem unsF_cases {F : Fo} (h : Inv F) {id : Int} {s : Sf} (hs : gt F id = some s) (h0 : s.par ≠ 0) {x : Int} {t : Sf} (ht : gt (unsF F id) x = some t) : ∃ u, gt F x = some u ∧ t.par = (if x = id then 0 else u.par) ∧ (t = { u with par := t.par } ∨ (x = s.par ∧ t = outS id u)) := by
 rw [unsF_gt h hs h0] at ht
 split at ht
 ·rename_i e
  subst e
  cases ht
  exact ⟨s, hs, by rw [if_pos rfl], .inl rfl⟩
 ·rename_i hx
  split at ht
  ·rename_i e
   obtain ⟨u, hu, rfl⟩ := Option.map_eq_some_iff.1 ht
   exact ⟨u, hu, by rw [if_neg hx]; rfl, .inr ⟨e, rfl⟩⟩
  ·exact ⟨t, ht, by rw [if_neg hx], .inl rfl⟩
theorem Inv.uns {F : Fo} (h : Inv F) (id : Int) : Inv (unsF F id) := by
 by_cases he : unsE F id = 0
 ·obtain ⟨s, hs, h0⟩ : ∃ s, gt F id = some s ∧ s.par ≠ 0 := by
   unfold unsE at he
   split at he
   ·cases he
   ·rename_i s hs
    split at he
    ·cases he
    ·rename_i h0
     exact ⟨s, hs, h0⟩
  have hsome : ∀ x u, gt F x = some u → ∃ t, gt (unsF F id) x = some t ∧ (x ≠ id → t.par = u.par) := fun x u hu => by
   rw [unsF_gt h hs h0]
   by_cases hx : x = id
   ·rw [if_pos hx]
    exact ⟨_, rfl, fun e => absurd hx e⟩
   ·rw [if_neg hx]
    by_cases hp : x = s.par
    ·rw [if_pos hp, hu]
     exact ⟨_, rfl, fun _ => rfl⟩
    ·rw [if_neg hp, hu]
     exact ⟨_, rfl, fun _ => rfl⟩
  have hz : gt (unsF F id) 0 = none := by
   rw [gt_none, unsF_keys]
   exact gt_none.1 h.zero
  have hl : Les F (unsF F id) := by
   refine ⟨fun x t ht => ?_, hz, fun x t ht hp => ?_⟩
   ·obtain ⟨u, hu, e, _⟩ := unsF_cases h hs h0 ht
    refine ⟨u, hu, ?_⟩
    rw [e]
    split
    ·exact .inr rfl
    ·exact .inl rfl
   ·obtain ⟨u, hu, e, _⟩ := unsF_cases h hs h0 ht
    by_cases hx : x = id
    ·rw [if_pos hx] at e
     exact absurd e hp
    ·rw [if_neg hx] at e
     rw [e] at hp
     obtain ⟨q, hq⟩ := h.acy.par x u hu hp
     obtain ⟨t', ht', _⟩ := hsome _ _ hq
     rw [e]
     exact ⟨t', ht'⟩
  refine ⟨by rw [unsF_keys]; exact h.nod, by rw [unsF_keys]; exact h.pos, by rw [unsF_length]; exact h.len, hl.acy h.acy, fun x t ht k hk hk0 => ?_⟩
  obtain ⟨u, hu, e, hc⟩ := unsF_cases h hs h0 ht
  obtain ⟨hku, hne⟩ : (k ∈ un1 u.pe.od ∨ k ∈ un1 u.ca.od ∨ k ∈ un1 u.no.od) ∧ k ≠ id := by
   rcases hc with hc | ⟨hxp, hc⟩
   ·rw [hc] at hk
    refine ⟨hk, fun ek => ?_⟩
    obtain ⟨c, h1, h2⟩ := h.kid x u hu k hk hk0
    rw [ek, hs] at h1
    cases h1
    obtain rfl : s.par = x := h2
    rw [unsF_gt h hs h0, if_neg (h.self_ne hs), if_pos rfl, hu] at ht
    have e1 : outS id u = t := Option.some.inj ht
    rw [← e1] at hc
    have e2 : (outS id u).pe.od = u.pe.od ∧ (outS id u).ca.od = u.ca.od ∧ (outS id u).no.od = u.no.od := by rw [hc]; exact ⟨rfl, rfl, rfl⟩
    rcases hk with hk | hk | hk
    ·rw [← e2.1] at hk; exact (mem_outL hk).2 ek
    ·rw [← e2.2.1] at hk; exact (mem_outL hk).2 ek
    ·rw [← e2.2.2] at hk; exact (mem_outL hk).2 ek
   ·rw [hc] at hk
    rcases hk with hk | hk | hk
    ·exact ⟨.inl (mem_outL hk).1, (mem_outL hk).2⟩
    ·exact ⟨.inr (.inl (mem_outL hk).1), (mem_outL hk).2⟩
    ·exact ⟨.inr (.inr (mem_outL hk).1), (mem_outL hk).2⟩
  obtain ⟨c, h1, h2⟩ := h.kid x u hu k hku hk0
  obtain ⟨c', h3, h4⟩ := hsome _ _ h1
  exact ⟨c', h3, by rw [h4 hne, h2]⟩
 ·rw [unsF_none he]
  exact h
theorem unsF_par {F : Fo} (h : Inv F) {id : Int} {t : Sf} (ht : gt (unsF F id) id = some t) : t.par = 0 := by
 by_cases he : unsE F id = 0
 ·unfold unsE at he
  split at he
  ·cases he
  ·rename_i s hs
   split at he
   ·cases he
   ·rename_i h0
    rw [unsF_gt h hs h0, if_pos rfl] at ht
    cases ht
    rfl
 ·rw [unsF_none he] at ht
  unfold unsE at he
  rw [ht] at he
  dsimp only at he
  split at he
  ·rename_i h0
   exact h0
  ·exact absurd rfl he
def selfS (id : Int) (s : Sf) : Sf := if s.par = id then { s with par := 0 } else s
theorem gt_map (F : Fo) (f : Sf → Sf) (x : Int) : gt (F.map fun e => (e.1, f e.2)) x = (gt F x).map f := by
 induction F with
 | nil => rfl
 | cons e F ih =>
  rw [List.map_cons, gt, gt]
  split
  ·rfl
  ·exact ih
theorem keys_map (F : Fo) (f : Sf → Sf) : keys (F.map fun e => (e.1, f e.2)) = keys F := by simp [keys]
theorem drpF_eq {F : Fo} {id : Int} {s : Sf} (hs : gt F id = some s) : drpF F id = (rm (unsF F id) id).map fun e => (e.1, selfS id e.2) := by
 unfold drpF
 rw [hs]
 rfl
theorem drpF_gt {F : Fo} {id : Int} {s : Sf} (hs : gt F id = some s) (x : Int) : gt (drpF F id) x = if x = id then none else (gt (unsF F id) x).map (selfS id) := by
 rw [drpF_eq hs, gt_map, gt_rm]
 split
 ·rfl
 ·rfl
theorem Inv.drp {F : Fo} (h : Inv F) (id : Int) : Inv (drpF F id) := by
 cases hs : gt F id with
 | none =>
  unfold drpF
  rw [hs]
  exact h
 | some s =>
  have hU := h.uns id
  have hid1 := h.pos' hs
  have hk : keys (drpF F id) = (keys (unsF F id)).filter fun k => decide (k ≠ id) := by
   rw [drpF_eq hs, keys_map, keys, rm, keys, List.filter_map]
   rfl
  have hcase : ∀ x t, gt (drpF F id) x = some t → x ≠ id ∧ ∃ u, gt (unsF F id) x = some u ∧ t = selfS id u := fun x t ht => by
   rw [drpF_gt hs] at ht
   split at ht
   ·cases ht
   ·rename_i hx
    obtain ⟨u, hu, e⟩ := Option.map_eq_some_iff.1 ht
    exact ⟨hx, u, hu, e.symm⟩
  have hpar : ∀ u, (selfS id u).par = if u.par = id then 0 else u.par := fun u => by
   unfold selfS
   split <;> rfl
  have hl : Les (unsF F id) (drpF F id) := by
   refine ⟨fun x t ht => ?_, ?_, fun x t ht hp => ?_⟩
   ·obtain ⟨_, u, hu, rfl⟩ := hcase x t ht
    refine ⟨u, hu, ?_⟩
    rw [hpar]
    split
    ·exact .inr rfl
    ·exact .inl rfl
   ·rw [drpF_gt hs, if_neg (by omega), hU.zero]
    rfl
   ·obtain ⟨_, u, hu, rfl⟩ := hcase x t ht
    rw [hpar] at hp ⊢
    split at hp
    ·exact absurd rfl hp
    ·rename_i hpi
     rw [if_neg hpi]
     obtain ⟨q, hq⟩ := hU.acy.par x u hu hp
     rw [drpF_gt hs, if_neg hpi, hq]
     exact ⟨_, rfl⟩
  refine ⟨by rw [hk]; exact hU.nod.sublist List.filter_sublist, fun x hx => ?_, ?_, hl.acy hU.acy, fun x t ht k hk' hk0 => ?_⟩
  ·rw [hk] at hx
   exact hU.pos x (List.mem_filter.1 hx).1
  ·rw [drpF_eq hs, List.length_map]
   exact Nat.le_trans (rm_length _ _) hU.len
  ·obtain ⟨hx, u, hu, rfl⟩ := hcase x t ht
   have hk2 : k ∈ un1 u.pe.od ∨ k ∈ un1 u.ca.od ∨ k ∈ un1 u.no.od := by
    unfold selfS at hk'
    split at hk' <;> exact hk'
   obtain ⟨c, h1, h2⟩ := hU.kid x u hu k hk2 hk0
   have hki : k ≠ id := fun e => by
    rw [e] at h1
    have := unsF_par h h1
    have h3 := hU.pos' hu
    omega
   refine ⟨selfS id c, by rw [drpF_gt hs, if_neg hki, h1]; rfl, ?_⟩
   rw [hpar, h2, if_neg hx]
end
section
def subP (id : Int) (q : Sf) : Sf := plcS [id, 0, 0] (ordS (sg (dr id (un1 (lat q)) ++ [id])) q)
theorem subE_zero {F : Fo} {id p : Int} (h : subE F id p = 0) : ∃ s q, gt F id = some s ∧ gt F p = some q ∧ s.par = 0 ∧ ¬ Anc F p id := by
 unfold subE at h
 split at h
 ·rename_i s q hs hq
  split at h
  ·cases h
  ·rename_i h0
   split at h
   ·cases h
   ·rename_i ha
    exact ⟨s, q, hs, hq, by simpa using h0, fun hh => ha (anc_true.2 hh)⟩
 ·cases h
theorem subF_gt {F : Fo} {id p : Int} (h : subE F id p = 0) (x : Int) : gt (subF F id p) x = if x = p then (gt F p).map (subP id) else if x = id then (gt F id).map (fun s => { s with par := p, syn := true }) else gt F x := by
 obtain ⟨s, q, hs, hq, _, ha⟩ := subE_zero h
 have hne : p ≠ id := fun e => ha (by rw [← e]; exact .self hq)
 unfold subF
 rw [if_pos h, gt_upd]
 by_cases hx : x = p
 ·rw [if_pos hx, if_pos hx, gt_upd, if_neg hne]
  rfl
 ·rw [if_neg hx, if_neg hx, gt_upd]
theorem subF_keys (F : Fo) (id p : Int) : keys (subF F id p) = keys F := by
 unfold subF
 split
 ·rw [keys_upd, keys_upd]
 ·rfl
theorem subF_length (F : Fo) (id p : Int) : (subF F id p).length = F.length := by
 have h := congrArg List.length (subF_keys F id p)
 simpa only [keys, List.length_map] using h
theorem Inv.sub {F : Fo} (h : Inv F) (id p : Int) : Inv (subF F id p) := by
 by_cases he : subE F id p = 0
 ·obtain ⟨s, q, hs, hq, h0, ha⟩ := subE_zero he
  have hne : p ≠ id := fun e => ha (by rw [← e]; exact .self hq)
  have hp1 := h.pos' hq
  have hcase : ∀ x t, gt (subF F id p) x = some t → ∃ u, gt F x = some u ∧ (x = id → t.par = p) ∧ (x ≠ id → t.par = u.par) := fun x t ht => by
   rw [subF_gt he] at ht
   split at ht
   ·rename_i e
    subst e
    rw [hq] at ht
    cases ht
    exact ⟨q, hq, fun e => absurd e hne, fun _ => rfl⟩
   ·split at ht
    ·rename_i e
     subst e
     rw [hs] at ht
     cases ht
     exact ⟨s, hs, fun _ => rfl, fun e => absurd rfl e⟩
    ·rename_i e
     exact ⟨t, ht, fun e' => absurd e' e, fun _ => rfl⟩
  have hsome : ∀ x u, gt F x = some u → ∃ t, gt (subF F id p) x = some t ∧ (x = id → t.par = p) ∧ (x ≠ id → t.par = u.par) := fun x u hu => by
   have : (gt (subF F id p) x).isSome = true := by
    rw [gt_some, subF_keys, ← gt_some, hu]
    rfl
   obtain ⟨t, ht⟩ := Option.isSome_iff_exists.1 this
   obtain ⟨u', hu', h1, h2⟩ := hcase x t ht
   rw [hu] at hu'
   cases hu'
   exact ⟨t, ht, h1, h2⟩
  have hanc : ∀ y z, Anc (subF F id p) y z → Anc F y z ∨ (Anc F y id ∧ Anc F p z) := fun y z hh => by
   induction hh with
   | self h1 =>
    obtain ⟨u, hu, _⟩ := hcase _ _ h1
    exact .inl (.self hu)
   | up h1 _ ih =>
    rename_i y' z' t _
    obtain ⟨u, hu, e1, e2⟩ := hcase _ _ h1
    by_cases hy : y' = id
    ·rw [e1 hy] at ih
     rcases ih with ih | ⟨ih, _⟩
     ·exact .inr ⟨by rw [hy]; exact .self hs, ih⟩
     ·exact absurd ih ha
    ·rw [e2 hy] at ih
     rcases ih with ih | ⟨ih, ih2⟩
     ·exact .inl (.up hu ih)
     ·exact .inr ⟨.up hu ih, ih2⟩
  have hkk : ∀ x k, (∃ c, gt F k = some c ∧ c.par = x) → x ≠ 0 → ∃ c, gt (subF F id p) k = some c ∧ c.par = x := fun x k hc hx => by
   obtain ⟨c, h1, h2⟩ := hc
   obtain ⟨t, h3, _, h4⟩ := hsome _ _ h1
   refine ⟨t, h3, ?_⟩
   rw [h4 (fun e => by
    rw [e, hs] at h1
    cases h1
    exact hx (by rw [← h2, h0]))]
   exact h2
  refine ⟨by rw [subF_keys]; exact h.nod, by rw [subF_keys]; exact h.pos, by rw [subF_length]; exact h.len, ⟨fun x t ht hh => ?_, fun x t ht hp => ?_⟩, fun x t ht k hk hk0 => ?_⟩
  ·obtain ⟨u, hu, e1, e2⟩ := hcase x t ht
   by_cases hx : x = id
   ·rw [e1 hx, hx] at hh
    rcases hanc _ _ hh with hh | ⟨hh, _⟩
    ·exact ha hh
    ·exact ha hh
   ·rw [e2 hx] at hh
    rcases hanc _ _ hh with hh | ⟨hh, hh2⟩
    ·exact h.acy.no x u hu hh
    ·exact ha (hh2.trans (.up hu hh))
  ·obtain ⟨u, hu, e1, e2⟩ := hcase x t ht
   by_cases hx : x = id
   ·rw [e1 hx]
    obtain ⟨t', ht', _⟩ := hsome _ _ hq
    exact ⟨t', ht'⟩
   ·rw [e2 hx] at hp ⊢
    obtain ⟨q', hq'⟩ := h.acy.par x u hu hp
    obtain ⟨t', ht', _⟩ := hsome _ _ hq'
    exact ⟨t', ht'⟩
  ·rw [subF_gt he] at ht
   split at ht
   ·rename_i e
    subst e
    rw [hq] at ht
    cases ht
    rcases hk with hk | hk | hk
    ·rcases List.mem_append.1 (mem_un1_sg.1 hk) with hk | hk
     ·exact hkk _ _ (kok_lat (h.kid _ _ hq) (mem_dr.1 hk).1 hk0) (by omega)
     ·simp only [List.mem_singleton] at hk
      subst hk
      obtain ⟨t', h1, h2, _⟩ := hsome _ _ hs
      exact ⟨t', h1, h2 rfl⟩
    ·exact hkk _ _ (h.kid _ _ hq k (.inr (.inl hk)) hk0) (by omega)
    ·exact hkk _ _ (h.kid _ _ hq k (.inr (.inr hk)) hk0) (by omega)
   ·have hx1 : ∀ u, gt F x = some u → x ≠ 0 := fun u hu => by
     have := h.pos' hu
     omega
    split at ht
    ·rename_i e
     subst e
     rw [hs] at ht
     cases ht
     exact hkk _ _ (h.kid _ _ hs k hk hk0) (hx1 _ hs)
    ·exact hkk _ _ (h.kid _ _ ht k hk hk0) (hx1 _ ht)
 ·unfold subF
  rw [if_neg he]
  exact h
theorem Inv.syn {F : Fo} (h : Inv F) (id : Int) (on : Bool) : Inv (synF F id on) := by
 unfold synF
 split
 ·exact h
 ·rename_i s hs
  split
  ·exact h
  ·have hg : ∀ x, gt (st F id { s with syn := on }) x = if x = id then some { s with syn := on } else gt F x := fun x => by
    rw [gt_st, hs]
    rfl
   have hcase : ∀ x t, gt (st F id { s with syn := on }) x = some t → ∃ u, gt F x = some u ∧ t.par = u.par ∧ t.pe = u.pe ∧ t.ca = u.ca ∧ t.no = u.no := fun x t ht => by
    rw [hg] at ht
    split at ht
    ·rename_i e
     subst e
     cases ht
     exact ⟨s, hs, rfl, rfl, rfl, rfl⟩
    ·exact ⟨t, ht, rfl, rfl, rfl, rfl⟩
   have hsome : ∀ x u, gt F x = some u → ∃ t, gt (st F id { s with syn := on }) x = some t ∧ t.par = u.par := fun x u hu => by
    rw [hg]
    by_cases hx : x = id
    ·rw [if_pos hx]
     rw [hx, hs] at hu
     cases hu
     exact ⟨_, rfl, rfl⟩
    ·rw [if_neg hx]
     exact ⟨u, hu, rfl⟩
   have hl : Les F (st F id { s with syn := on }) := by
    refine ⟨fun x t ht => ?_, ?_, fun x t ht hp => ?_⟩
    ·obtain ⟨u, hu, e, _⟩ := hcase x t ht
     exact ⟨u, hu, .inl e⟩
    ·rw [gt_none, keys_st]
     exact gt_none.1 h.zero
    ·obtain ⟨u, hu, e, _⟩ := hcase x t ht
     rw [e] at hp ⊢
     obtain ⟨q, hq⟩ := h.acy.par x u hu hp
     obtain ⟨t', ht', _⟩ := hsome _ _ hq
     exact ⟨t', ht'⟩
   refine ⟨by rw [keys_st]; exact h.nod, by rw [keys_st]; exact h.pos, by rw [st, List.length_map]; exact h.len, hl.acy h.acy, fun x t ht k hk hk0 => ?_⟩
   obtain ⟨u, hu, e, e1, e2, e3⟩ := hcase x t ht
   rw [e1, e2, e3] at hk
   obtain ⟨c, h1, h2⟩ := h.kid x u hu k hk hk0
   obtain ⟨t', h3, h4⟩ := hsome _ _ h1
   exact ⟨t', h3, by rw [h4, h2]⟩
theorem mrg_mem {a b : Sq} {k : Int} (h : k ∈ un1 (mrg a b).od) : k ∈ un1 a.od ∨ k ∈ un1 b.od := by
 simp only [mrg] at h
 cases hb : b.ord with
 | true => rw [hb] at h; exact .inr h
 | false => rw [hb] at h; exact .inl h
theorem apl_mem {a b : Sq} {k : Int} (h : k ∈ un1 (apl a b).od) : k ∈ un1 a.od ∨ k ∈ un1 b.od := mrg_mem h
theorem kok_apl {F : Fo} {x : Int} {s : Sf} (h : Kok F x s) : Kok F x (aplS s) := fun k hk h0 => by
 rcases hk with hk | hk | hk
 ·exact h k (.inl hk) h0
 ·cases hk
 ·rcases apl_mem hk with hk | hk
  ·exact h k (.inr (.inr hk)) h0
  ·exact h k (.inr (.inl hk)) h0
def cacS (s : Sf) : Sf := { s with ca := mrg s.ca s.pe, pe := sq0 }
def comS (s : Sf) : Sf := { s with no := apl s.no (mrg s.ca s.pe), ca := sq0, pe := sq0 }
theorem kok_cac {F : Fo} {x : Int} {s : Sf} (h : Kok F x s) : Kok F x (cacS s) := fun k hk h0 => by
 rcases hk with hk | hk | hk
 ·cases hk
 ·rcases mrg_mem hk with hk | hk
  ·exact h k (.inr (.inl hk)) h0
  ·exact h k (.inl hk) h0
 ·exact h k (.inr (.inr hk)) h0
theorem kok_com {F : Fo} {x : Int} {s : Sf} (h : Kok F x s) : Kok F x (comS s) := fun k hk h0 => by
 rcases hk with hk | hk | hk
 ·cases hk
 ·cases hk
 ·rcases apl_mem hk with hk | hk
  ·exact h k (.inr (.inr hk)) h0
  ·rcases mrg_mem hk with hk | hk
   ·exact h k (.inr (.inl hk)) h0
   ·exact h k (.inl hk) h0
theorem Inv.apls {F : Fo} (h : Inv F) (id : Int) : Inv (upd F id aplS) := h.turn id aplS (fun _ => ⟨rfl, rfl⟩) fun s hs => kok_apl (h.kid id s hs)
theorem Inv.cacs {F : Fo} (h : Inv F) (id : Int) : Inv (upd F id cacS) := h.turn id cacS (fun _ => ⟨rfl, rfl⟩) fun s hs => kok_cac (h.kid id s hs)
theorem Inv.coms {F : Fo} (h : Inv F) (id : Int) : Inv (upd F id comS) := h.turn id comS (fun _ => ⟨rfl, rfl⟩) fun s hs => kok_com (h.kid id s hs)
noncomputable def kst (n : Nat) (r : Fo × List Int) (k : Int) : Fo × List Int := match gt r.1 k with
 | none => r
 | some c => if k = 0 ∨ sy r.1 k = false then r else if non c.ca then kds n r.1 k r.2 else kds n (upd r.1 k aplS) k (r.2 ++ [k])
theorem kds_succ (n : Nat) (F : Fo) (x : Int) (l : List Int) : kds (n + 1) F x l = match gt F x with
  | none => (F, l)
  | some s => (un1 s.no.od).foldl (kst n) (F, l) := rfl
theorem kds_inv : ∀ (n : Nat) (F : Fo) (x : Int) (l : List Int), Inv F → Inv (kds n F x l).1 ∧ Tre F (kds n F x l).1
 | 0, F, _, _, h => ⟨h, Tre.refl F⟩
 | n + 1, F, x, l, h => by
  rw [kds_succ]
  split
  ·exact ⟨h, Tre.refl F⟩
  ·rename_i s _
   have hst : ∀ (r : Fo × List Int) (k : Int), Inv r.1 → Inv (kst n r k).1 ∧ Tre r.1 (kst n r k).1 := fun r k hr => by
    unfold kst
    split
    ·exact ⟨hr, Tre.refl _⟩
    ·split
     ·exact ⟨hr, Tre.refl _⟩
     ·split
      ·exact kds_inv n _ _ _ hr
      ·have h1 := kds_inv n (upd r.1 k aplS) k (r.2 ++ [k]) (hr.apls k)
       exact ⟨h1.1, (tre_upd r.1 k aplS (fun _ => ⟨rfl, rfl⟩)).trans h1.2⟩
   have hf : ∀ (L : List Int) (r : Fo × List Int), Inv r.1 → Inv (L.foldl (kst n) r).1 ∧ Tre r.1 (L.foldl (kst n) r).1 := fun L => by
    induction L with
    | nil => exact fun r hr => ⟨hr, Tre.refl _⟩
    | cons k L ih =>
     intro r hr
     rw [List.foldl_cons]
     obtain ⟨h1, h2⟩ := hst r k hr
     obtain ⟨h3, h4⟩ := ih _ h1
     exact ⟨h3, h2.trans h4⟩
   exact hf _ (F, l) h
theorem comF_eq (n : Nat) (F : Fo) (id : Int) : comF n F id = match gt F id with
  | none => (F, [])
  | some _ => if sy F id then (upd F id cacS, []) else kds n (upd F id comS) id [id] := rfl
theorem Inv.com {F : Fo} (h : Inv F) (n : Nat) (id : Int) : Inv (comF n F id).1 := by
 rw [comF_eq]
 split
 ·exact h
 ·split
  ·exact h.cacs id
  ·exact (kds_inv n _ _ _ (h.coms id)).1
end
section
def Edg (y : List Int) : Prop := ∃ a b c, y = [a, b, c] ∧ -16777216 ≤ b ∧ b ≤ 16777216 ∧ -16777216 ≤ c ∧ c ≤ 16777216
theorem edg_le (v : Int) : -16777216 ≤ edg v ∧ edg v ≤ 16777216 := by unfold edg; omega
structure Zs (m : Nat) (s : Sf) : Prop where
 dm : s.pe.dm.length + s.ca.dm.length + s.no.dm.length ≤ m
 fr : s.pe.fr.length + s.ca.fr.length + s.no.fr.length ≤ m
 pl : s.pe.pl.length + s.ca.pl.length + s.no.pl.length ≤ m
 od : s.pe.od.length ≤ m + 1 ∧ s.ca.od.length ≤ m + 1 ∧ s.no.od.length ≤ m + 1
 rg : s.pe.rg.length ≤ 20 ∧ s.ca.rg.length ≤ 20 ∧ s.no.rg.length ≤ 20
 ed : (∀ y ∈ s.pe.pl, Edg y) ∧ (∀ y ∈ s.ca.pl, Edg y) ∧ ∀ y ∈ s.no.pl, Edg y
theorem Zs.mono {m n : Nat} {s : Sf} (h : Zs m s) (hm : m ≤ n) : Zs n s := by
 obtain ⟨h1, h2, h3, h4, h5, h6⟩ := h
 exact ⟨by omega, by omega, by omega, by omega, h5, h6⟩
def Szf (m : Nat) (F : Fo) : Prop := ∀ x s, gt F x = some s → Zs m s
theorem Szf.mono {m n : Nat} {F : Fo} (h : Szf m F) (hm : m ≤ n) : Szf n F := fun x s hs => (h x s hs).mono hm
theorem Szf.turn {m n : Nat} {F : Fo} (h : Szf m F) (hm : m ≤ n) (id : Int) (f : Sf → Sf) (hf : ∀ s, Zs m s → Zs n (f s)) : Szf n (upd F id f) := fun x s hs => by
 rw [gt_upd] at hs
 split at hs
 ·obtain ⟨t, ht, rfl⟩ := Option.map_eq_some_iff.1 hs
  exact hf t (h _ t ht)
 ·exact (h x s hs).mono hm
theorem szf_nil : Szf 0 [] := fun _ _ h => by cases h
theorem zs_sf0 (m : Nat) : Zs m sf0 := ⟨by simp [sf0, sq0, sqA], by simp [sf0, sq0, sqA], by simp [sf0, sq0, sqA], by simp [sf0, sq0, sqA], by simp [sf0, sq0, sqA], by simp [sf0, sq0, sqA]⟩
theorem outL_length (id : Int) (l : List (List Int)) : (outL id l).length ≤ l.length := List.length_filter_le _ _
theorem mem_puts {l m : List (List Int)} : ∀ {y : List Int}, y ∈ puts l m → y ∈ l ∨ y ∈ m := by
 induction m generalizing l with
 | nil => exact fun h => .inl h
 | cons c m ih =>
  intro y h
  rw [puts_cons] at h
  rcases ih h with h | h
  ·rcases mem_put1 h with h | h
   ·exact .inr (by simp [h])
   ·exact .inl h
  ·exact .inr (by simp [h])
theorem Zs.att {m : Nat} {s : Sf} (h : Zs m s) (b : Int) : Zs (m + 1) (attS b s) := by
 obtain ⟨h1, h2, h3, h4, h5, h6⟩ := h.mono (Nat.le_succ m)
 exact ⟨h1, h2, h3, h4, h5, h6⟩
theorem Zs.dmg {m : Nat} {s : Sf} (h : Zs m s) (r : List Int) : Zs (m + 1) (dmgS r s) := by
 obtain ⟨h1, h2, h3, h4, h5, h6⟩ := h
 exact ⟨by simp only [dmgS, List.length_append, List.length_singleton]; omega, by simp only [dmgS]; omega, by simp only [dmgS]; omega, by simp only [dmgS]; omega, h5, h6⟩
theorem Zs.frm {m : Nat} {s : Sf} (h : Zs m s) (c : Int) : Zs (m + 1) (frmS c s) := by
 obtain ⟨h1, h2, h3, h4, h5, h6⟩ := h
 exact ⟨by simp only [frmS]; omega, by simp only [frmS, List.length_append, List.length_singleton]; omega, by simp only [frmS]; omega, by simp only [frmS]; omega, h5, h6⟩
theorem Zs.inp {m : Nat} {s : Sf} (h : Zs m s) (a : Bool) (l : List (List Int)) (hl : l.length ≤ 20) : Zs (m + 1) (inpS a l s) := by
 obtain ⟨h1, h2, h3, h4, h5, h6⟩ := h.mono (Nat.le_succ m)
 refine ⟨h1, h2, h3, h4, ⟨?_, h5.2.1, h5.2.2⟩, h6⟩
 show (bif a then [] else l).length ≤ 20
 cases a
 ·exact hl
 ·exact Nat.zero_le _
theorem Zs.plc {m : Nat} {s : Sf} (h : Zs m s) (c : List Int) (hc : Edg c) : Zs (m + 1) (plcS c s) := by
 obtain ⟨h1, h2, h3, h4, h5, h6⟩ := h
 have hl := (put1_length (l := s.pe.pl) (c := c)).2
 refine ⟨by simp only [plcS]; omega, by simp only [plcS]; omega, by simp only [plcS]; omega, by simp only [plcS]; omega, h5, fun y hy => ?_, h6.2.1, h6.2.2⟩
 rcases mem_put1 hy with rfl | hy
 ·exact hc
 ·exact h6.1 y hy
theorem Zs.tak {m : Nat} {s : Sf} (h : Zs m s) : Zs (m + 1) (takS s) := by
 obtain ⟨h1, h2, h3, h4, h5, h6⟩ := h
 exact ⟨by simp only [takS]; omega, by simp only [takS, List.length_nil]; omega, by simp only [takS]; omega, by simp only [takS]; omega, h5, h6⟩
theorem Zs.ord {m : Nat} {s : Sf} (h : Zs m s) (l : List Int) (hl : l.length ≤ m + 2) : Zs (m + 1) (ordS (sg l) s) := by
 obtain ⟨h1, h2, h3, h4, h5, h6⟩ := h
 exact ⟨by simp only [ordS]; omega, by simp only [ordS]; omega, by simp only [ordS]; omega, by simp only [ordS, sg_length]; omega, h5, h6⟩
theorem Zs.out {m : Nat} {s : Sf} (h : Zs m s) (id : Int) : Zs m (outS id s) := by
 obtain ⟨h1, h2, h3, h4, h5, h6⟩ := h
 have a1 := outL_length id s.pe.od
 have a2 := outL_length id s.ca.od
 have a3 := outL_length id s.no.od
 have b1 := outL_length id s.pe.pl
 have b2 := outL_length id s.ca.pl
 have b3 := outL_length id s.no.pl
 exact ⟨h1, h2, by simp only [outS, outQ]; omega, by simp only [outS, outQ]; omega, h5, fun y hy => h6.1 y (List.mem_filter.1 hy).1, fun y hy => h6.2.1 y (List.mem_filter.1 hy).1, fun y hy => h6.2.2 y (List.mem_filter.1 hy).1⟩
theorem Zs.par {m : Nat} {s : Sf} (h : Zs m s) (p : Int) (b : Bool) : Zs m { s with par := p, syn := b } := ⟨h.dm, h.fr, h.pl, h.od, h.rg, h.ed⟩
theorem lat_length {m : Nat} {s : Sf} (h : Zs m s) : (lat s).length ≤ m + 1 := by
 obtain ⟨h1, h2, h3⟩ := h.od
 unfold lat
 cases s.pe.ord
 ·cases s.ca.ord
  ·exact h3
  ·exact h2
 ·exact h1
theorem mrg_rg {a b : Sq} (ha : a.rg.length ≤ 20) (hb : b.rg.length ≤ 20) : (mrg a b).rg.length ≤ 20 := by
 simp only [mrg]
 cases b.inp
 ·exact ha
 ·exact hb
theorem mrg_odl {a b : Sq} {m : Nat} (ha : a.od.length ≤ m) (hb : b.od.length ≤ m) : (mrg a b).od.length ≤ m := by
 simp only [mrg]
 cases b.ord
 ·exact ha
 ·exact hb
theorem mrg_edg {a b : Sq} (ha : ∀ y ∈ a.pl, Edg y) (hb : ∀ y ∈ b.pl, Edg y) : ∀ y ∈ (mrg a b).pl, Edg y := fun y hy => by
 rcases mem_puts hy with hy | hy
 ·exact ha y hy
 ·exact hb y hy
theorem Zs.apls {m : Nat} {s : Sf} (h : Zs m s) : Zs m (aplS s) := by
 obtain ⟨h1, h2, h3, h4, h5, h6⟩ := h
 have hp := puts_length s.no.pl s.ca.pl
 refine ⟨by simp only [aplS, apl, sq0, List.length_nil]; omega, by simp only [aplS, apl, mrg, sq0, List.length_nil, List.length_append]; omega, by simp only [aplS, apl, mrg, sq0, List.length_nil]; omega, ⟨h4.1, by simp [aplS, sq0], mrg_odl (a := s.no) (b := s.ca) h4.2.2 h4.2.1⟩, ⟨h5.1, by simp [aplS, sq0], mrg_rg (a := s.no) (b := s.ca) h5.2.2 h5.2.1⟩, h6.1, by simp [aplS, sq0], mrg_edg (a := s.no) (b := s.ca) h6.2.2 h6.2.1⟩
theorem Zs.cacs {m : Nat} {s : Sf} (h : Zs m s) : Zs m (cacS s) := by
 obtain ⟨h1, h2, h3, h4, h5, h6⟩ := h
 have hp := puts_length s.ca.pl s.pe.pl
 refine ⟨by simp only [cacS, mrg, sq0, List.length_nil, List.length_append]; omega, by simp only [cacS, mrg, sq0, List.length_nil, List.length_append]; omega, by simp only [cacS, mrg, sq0, List.length_nil]; omega, ⟨by simp [cacS, sq0], mrg_odl (a := s.ca) (b := s.pe) h4.2.1 h4.1, h4.2.2⟩, ⟨by simp [cacS, sq0], mrg_rg (a := s.ca) (b := s.pe) h5.2.1 h5.1, h5.2.2⟩, by simp [cacS, sq0], mrg_edg (a := s.ca) (b := s.pe) h6.2.1 h6.1, h6.2.2⟩
theorem coms_eq (s : Sf) : comS s = aplS (cacS s) := rfl
theorem Zs.coms {m : Nat} {s : Sf} (h : Zs m s) : Zs m (comS s) := by
 rw [coms_eq]
 exact h.cacs.apls
theorem Szf.add {m : Nat} {F : Fo} (h : Szf m F) (id : Int) : Szf (m + 1) (addF F id) := by
 unfold addF
 split
 ·intro x s hs
  rw [gt_app] at hs
  split at hs
  ·exact (h x s hs).mono (Nat.le_succ m)
  ·split at hs
   ·cases hs
    exact zs_sf0 _
   ·cases hs
 ·exact h.mono (Nat.le_succ m)
theorem Szf.uns {m : Nat} {F : Fo} (h : Szf m F) (id : Int) : Szf m (unsF F id) := by
 unfold unsF
 split
 ·exact h
 ·split
  ·exact h
  ·exact (h.turn (Nat.le_refl m) _ _ fun s hs => hs.out id).turn (Nat.le_refl m) _ _ fun s hs => hs.par 0 s.syn
theorem Szf.drp {m : Nat} {F : Fo} (h : Szf m F) (id : Int) : Szf m (drpF F id) := by
 cases hs : gt F id with
 | none =>
  unfold drpF
  rw [hs]
  exact h
 | some s =>
  intro x t ht
  rw [drpF_gt hs] at ht
  split at ht
  ·cases ht
  ·obtain ⟨u, hu, rfl⟩ := Option.map_eq_some_iff.1 ht
   have := h.uns id x u hu
   unfold selfS
   split
   ·exact this.par 0 u.syn
   ·exact this
theorem Zs.subP {m : Nat} {s : Sf} (h : Zs m s) (id : Int) : Zs (m + 1) (subP id s) := by
 have hl := lat_length h
 have hd := dr_length id (un1 (lat s))
 rw [un1_length] at hd
 obtain ⟨h1, h2, h3, h4, h5, h6⟩ := h
 have hp := (put1_length (l := s.pe.pl) (c := [id, 0, 0])).2
 refine ⟨by simp only [Go.Proofs.YtdgknofpkafppaaGreatDoor.subP, plcS, ordS]; omega, by simp only [Go.Proofs.YtdgknofpkafppaaGreatDoor.subP, plcS, ordS]; omega, by simp only [Go.Proofs.YtdgknofpkafppaaGreatDoor.subP, plcS, ordS]; omega, ?_, h5, fun y hy => ?_, h6.2.1, h6.2.2⟩
 ·simp only [Go.Proofs.YtdgknofpkafppaaGreatDoor.subP, plcS, ordS, sg_length, List.length_append, List.length_singleton]
  omega
 ·rcases mem_put1 hy with rfl | hy
  ·exact ⟨id, 0, 0, rfl, by decide, by decide, by decide, by decide⟩
  ·exact h6.1 y hy
theorem Szf.sub {m : Nat} {F : Fo} (h : Szf m F) (id p : Int) : Szf (m + 1) (subF F id p) := by
 unfold subF
 split
 ·exact (h.turn (Nat.le_refl m) _ _ fun s hs => hs.par p true).turn (Nat.le_succ m) _ _ fun s hs => hs.subP id
 ·exact h.mono (Nat.le_succ m)
theorem Szf.posn {m : Nat} {F : Fo} (h : Szf m F) (id x y : Int) : Szf (m + 1) (posF F id x y) := by
 unfold posF
 split
 ·exact h.mono (Nat.le_succ m)
 ·split
  ·exact h.mono (Nat.le_succ m)
  ·exact h.turn (Nat.le_succ m) _ _ fun s hs => hs.plc _ ⟨id, edg x, edg y, rfl, (edg_le x).1, (edg_le x).2, (edg_le y).1, (edg_le y).2⟩
theorem bes_len {l m : List Int} {id by_ : Int} {b : Nat} (h : bes l id by_ b = some m) : m.length ≤ l.length + 1 := by
 unfold bes at h
 split at h
 ·cases h
 ·obtain ⟨i, _, rfl⟩ := Option.map_eq_some_iff.1 h
  rw [ins_length]
  have := dr_length id l
  omega
theorem putL_length {F : Fo} {m : Nat} (h : Szf m F) {id by_ : Int} {b : Nat} {p : Int} {l : List Int} (hp : putL F id by_ b = some (p, l)) : l.length ≤ m + 2 := by
 unfold putL at hp
 split at hp
 ·cases hp
 ·split at hp
  ·cases hp
  ·split at hp
   ·cases hp
   ·rename_i q hq
    have hl := lat_length (h _ _ hq)
    split at hp
    ·obtain ⟨m', hm, e⟩ := Option.map_eq_some_iff.1 hp
     cases e
     have := bes_len hm
     rw [un1_length] at this
     omega
    ·split at hp
     ·cases hp
     ·obtain ⟨m', hm, e⟩ := Option.map_eq_some_iff.1 hp
      cases e
      have := bes_len hm
      rw [un1_length] at this
      omega
theorem Szf.put {m : Nat} {F : Fo} (h : Szf m F) (id by_ : Int) (b : Nat) : Szf (m + 1) (putF F id by_ b) := by
 unfold putF
 split
 ·exact h.mono (Nat.le_succ m)
 ·rename_i p l hp
  exact h.turn (Nat.le_succ m) _ _ fun s hs => hs.ord l (putL_length h hp)
theorem Szf.syn {m : Nat} {F : Fo} (h : Szf m F) (id : Int) (on : Bool) : Szf m (synF F id on) := by
 unfold synF
 split
 ·exact h
 ·rename_i s hs
  split
  ·exact h
  ·intro x t ht
   rw [gt_st] at ht
   split at ht
   ·rw [hs] at ht
    cases ht
    exact (h _ _ hs).par s.par on
   ·exact h x t ht
theorem kds_szf {m : Nat} : ∀ (n : Nat) (F : Fo) (x : Int) (l : List Int), Szf m F → Szf m (kds n F x l).1
 | 0, _, _, _, h => h
 | n + 1, F, x, l, h => by
  rw [kds_succ]
  split
  ·exact h
  ·have hst : ∀ (r : Fo × List Int) (k : Int), Szf m r.1 → Szf m (kst n r k).1 := fun r k hr => by
    unfold kst
    split
    ·exact hr
    ·split
     ·exact hr
     ·split
      ·exact kds_szf n _ _ _ hr
      ·exact kds_szf n _ _ _ (hr.turn (Nat.le_refl m) _ _ fun s hs => hs.apls)
   have hf : ∀ (L : List Int) (r : Fo × List Int), Szf m r.1 → Szf m (L.foldl (kst n) r).1 := fun L => by
    induction L with
    | nil => exact fun r hr => hr
    | cons k L ih => exact fun r hr => ih _ (hst r k hr)
   exact hf _ (F, l) h
theorem Szf.com {m : Nat} {F : Fo} (h : Szf m F) (n : Nat) (id : Int) : Szf m (comF n F id).1 := by
 rw [comF_eq]
 split
 ·exact h
 ·split
  ·exact h.turn (Nat.le_refl m) _ _ fun s hs => hs.cacs
  ·exact kds_szf n _ _ _ (h.turn (Nat.le_refl m) _ _ fun s hs => hs.coms)
end
end Go.Proofs.YtdgknofpkafppaaGreatDoor
