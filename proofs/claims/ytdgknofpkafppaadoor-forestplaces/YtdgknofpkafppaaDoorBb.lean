/- Forests: Unsub, Drop, Sub, Sync, Commit leave a forest. No program. -/
import Derived.Test.YtdgknofpkafppaaDoorBa
import Derived.Test.YtdgknofpkafppaaDoorChecked
import Derived.Laws.StructEq
import Derived.BigQuiet
import Derived.Laws.Rows
import Derived.Lib.Builder
import Derived.Shelf.Abstract
namespace Go.Proofs.YtdgknofpkafppaaDoor
open Go Go.RowKit

/-- Some are by themselves now, some are gone; nothing else of the tree. -/
structure Les (F G : Fo) : Prop where
  old : ∀ x s, gt G x = some s → ∃ t, gt F x = some t ∧ (s.par = t.par ∨ s.par = 0)
  zero : gt G 0 = none
  par : ∀ x s, gt G x = some s → s.par ≠ 0 → ∃ q, gt G s.par = some q
theorem Les.anc {F G : Fo} (h : Les F G) {x y : Int} (ha : Anc G x y) : Anc F x y := by
  induction ha with
  | self h1 =>
    obtain ⟨t, ht, _⟩ := h.old _ _ h1
    exact .self ht
  | up h1 h2 ih =>
    obtain ⟨t, ht, e | e⟩ := h.old _ _ h1
    · exact .up ht (by rw [← e]; exact ih)
    · have := h2.has
      rw [e, h.zero] at this
      cases this
theorem Les.acy {F G : Fo} (h : Les F G) (hA : Acy F) : Acy G := by
  refine ⟨fun x s hs ha => ?_, h.par⟩
  obtain ⟨t, ht, e | e⟩ := h.old _ _ hs
  · exact hA.no x t ht (by rw [← e]; exact h.anc ha)
  · have := ha.has
    rw [e, h.zero] at this
    cases this

theorem Inv.self_ne {F : Fo} (h : Inv F) {x : Int} {s : Sf} (hs : gt F x = some s) : s.par ≠ x := fun e => h.acy.no x s hs (by rw [e]; exact .self hs)
theorem unsF_gt {F : Fo} (h : Inv F) {id : Int} {s : Sf} (hs : gt F id = some s) (h0 : s.par ≠ 0) (x : Int) : gt (unsF F id) x = if x = id then some { s with par := 0 } else if x = s.par then (gt F x).map (outS id) else gt F x := by
  have hne := h.self_ne hs
  unfold unsF
  rw [hs]
  dsimp only
  rw [if_neg h0, gt_upd]
  by_cases hx : x = id
  · rw [if_pos hx, if_pos hx, gt_upd, if_neg (fun e => hne e.symm), hs]
    rfl
  · rw [if_neg hx, if_neg hx, gt_upd]
    by_cases hp : x = s.par
    · rw [if_pos hp, if_pos hp, hp]
    · rw [if_neg hp, if_neg hp]
theorem unsF_keys (F : Fo) (id : Int) : keys (unsF F id) = keys F := by
  unfold unsF
  split
  · rfl
  · split
    · rfl
    · rw [keys_upd, keys_upd]
theorem unsF_length (F : Fo) (id : Int) : (unsF F id).length = F.length := by
  have h := congrArg List.length (unsF_keys F id)
  simpa only [keys, List.length_map] using h
theorem unsF_none {F : Fo} {id : Int} (h : unsE F id ≠ 0) : unsF F id = F := by
  unfold unsE at h
  unfold unsF
  split
  · rfl
  · rename_i s hs
    rw [hs] at h
    dsimp only at h
    split
    · rfl
    · rename_i h0
      rw [if_neg h0] at h
      exact absurd rfl h
/-- What is left of each, and where. -/
theorem unsF_cases {F : Fo} (h : Inv F) {id : Int} {s : Sf} (hs : gt F id = some s) (h0 : s.par ≠ 0) {x : Int} {t : Sf} (ht : gt (unsF F id) x = some t) : ∃ u, gt F x = some u ∧ t.par = (if x = id then 0 else u.par) ∧ (t = { u with par := t.par } ∨ (x = s.par ∧ t = outS id u)) := by
  rw [unsF_gt h hs h0] at ht
  split at ht
  · rename_i e
    subst e
    cases ht
    exact ⟨s, hs, by rw [if_pos rfl], .inl rfl⟩
  · rename_i hx
    split at ht
    · rename_i e
      obtain ⟨u, hu, rfl⟩ := Option.map_eq_some_iff.1 ht
      exact ⟨u, hu, by rw [if_neg hx]; rfl, .inr ⟨e, rfl⟩⟩
    · exact ⟨t, ht, by rw [if_neg hx], .inl rfl⟩
theorem Inv.uns {F : Fo} (h : Inv F) (id : Int) : Inv (unsF F id) := by
  by_cases he : unsE F id = 0
  · obtain ⟨s, hs, h0⟩ : ∃ s, gt F id = some s ∧ s.par ≠ 0 := by
      unfold unsE at he
      split at he
      · cases he
      · rename_i s hs
        split at he
        · cases he
        · rename_i h0
          exact ⟨s, hs, h0⟩
    have hsome : ∀ x u, gt F x = some u → ∃ t, gt (unsF F id) x = some t ∧ (x ≠ id → t.par = u.par) := fun x u hu => by
      rw [unsF_gt h hs h0]
      by_cases hx : x = id
      · rw [if_pos hx]
        exact ⟨_, rfl, fun e => absurd hx e⟩
      · rw [if_neg hx]
        by_cases hp : x = s.par
        · rw [if_pos hp, hu]
          exact ⟨_, rfl, fun _ => rfl⟩
        · rw [if_neg hp, hu]
          exact ⟨_, rfl, fun _ => rfl⟩
    have hz : gt (unsF F id) 0 = none := by
      rw [gt_none, unsF_keys]
      exact gt_none.1 h.zero
    have hl : Les F (unsF F id) := by
      refine ⟨fun x t ht => ?_, hz, fun x t ht hp => ?_⟩
      · obtain ⟨u, hu, e, _⟩ := unsF_cases h hs h0 ht
        refine ⟨u, hu, ?_⟩
        rw [e]
        split
        · exact .inr rfl
        · exact .inl rfl
      · obtain ⟨u, hu, e, _⟩ := unsF_cases h hs h0 ht
        by_cases hx : x = id
        · rw [if_pos hx] at e
          exact absurd e hp
        · rw [if_neg hx] at e
          rw [e] at hp
          obtain ⟨q, hq⟩ := h.acy.par x u hu hp
          obtain ⟨t', ht', _⟩ := hsome _ _ hq
          rw [e]
          exact ⟨t', ht'⟩
    refine ⟨by rw [unsF_keys]; exact h.nod, by rw [unsF_keys]; exact h.pos, by rw [unsF_length]; exact h.len, hl.acy h.acy, fun x t ht k hk hk0 => ?_⟩
    obtain ⟨u, hu, e, hc⟩ := unsF_cases h hs h0 ht
    obtain ⟨hku, hne⟩ : (k ∈ un1 u.pe.od ∨ k ∈ un1 u.ca.od ∨ k ∈ un1 u.no.od) ∧ k ≠ id := by
      rcases hc with hc | ⟨hxp, hc⟩
      · rw [hc] at hk
        refine ⟨hk, fun ek => ?_⟩
        obtain ⟨c, h1, h2⟩ := h.kid x u hu k hk hk0
        rw [ek, hs] at h1
        cases h1
        obtain rfl : s.par = x := h2
        rw [unsF_gt h hs h0, if_neg (h.self_ne hs), if_pos rfl, hu] at ht
        have e1 : outS id u = t := Option.some.inj ht
        rw [← e1] at hc
        have e2 : (outS id u).pe.od = u.pe.od ∧ (outS id u).ca.od = u.ca.od ∧ (outS id u).no.od = u.no.od := by rw [hc]; exact ⟨rfl, rfl, rfl⟩
        rcases hk with hk | hk | hk
        · rw [← e2.1] at hk; exact (mem_outL hk).2 ek
        · rw [← e2.2.1] at hk; exact (mem_outL hk).2 ek
        · rw [← e2.2.2] at hk; exact (mem_outL hk).2 ek
      · rw [hc] at hk
        rcases hk with hk | hk | hk
        · exact ⟨.inl (mem_outL hk).1, (mem_outL hk).2⟩
        · exact ⟨.inr (.inl (mem_outL hk).1), (mem_outL hk).2⟩
        · exact ⟨.inr (.inr (mem_outL hk).1), (mem_outL hk).2⟩
    obtain ⟨c, h1, h2⟩ := h.kid x u hu k hku hk0
    obtain ⟨c', h3, h4⟩ := hsome _ _ h1
    exact ⟨c', h3, by rw [h4 hne, h2]⟩
  · rw [unsF_none he]
    exact h

theorem unsF_par {F : Fo} (h : Inv F) {id : Int} {t : Sf} (ht : gt (unsF F id) id = some t) : t.par = 0 := by
  by_cases he : unsE F id = 0
  · unfold unsE at he
    split at he
    · cases he
    · rename_i s hs
      split at he
      · cases he
      · rename_i h0
        rw [unsF_gt h hs h0, if_pos rfl] at ht
        cases ht
        rfl
  · rw [unsF_none he] at ht
    unfold unsE at he
    rw [ht] at he
    dsimp only at he
    split at he
    · rename_i h0
      exact h0
    · exact absurd rfl he
def selfS (id : Int) (s : Sf) : Sf := if s.par = id then { s with par := 0 } else s
theorem gt_map (F : Fo) (f : Sf → Sf) (x : Int) : gt (F.map fun e => (e.1, f e.2)) x = (gt F x).map f := by
  induction F with
  | nil => rfl
  | cons e F ih =>
    rw [List.map_cons, gt, gt]
    split
    · rfl
    · exact ih
theorem keys_map (F : Fo) (f : Sf → Sf) : keys (F.map fun e => (e.1, f e.2)) = keys F := by simp [keys]
theorem drpF_eq {F : Fo} {id : Int} {s : Sf} (hs : gt F id = some s) : drpF F id = (rm (unsF F id) id).map fun e => (e.1, selfS id e.2) := by
  unfold drpF
  rw [hs]
  rfl
theorem drpF_gt {F : Fo} {id : Int} {s : Sf} (hs : gt F id = some s) (x : Int) : gt (drpF F id) x = if x = id then none else (gt (unsF F id) x).map (selfS id) := by
  rw [drpF_eq hs, gt_map, gt_rm]
  split
  · rfl
  · rfl
theorem Inv.drp {F : Fo} (h : Inv F) (id : Int) : Inv (drpF F id) := by
  cases hs : gt F id with
  | none =>
    unfold drpF
    rw [hs]
    exact h
  | some s =>
    have hU := h.uns id
    have hid1 := h.pos' hs
    have hk : keys (drpF F id) = (keys (unsF F id)).filter fun k => decide (k ≠ id) := by
      rw [drpF_eq hs, keys_map, keys, rm, keys, List.filter_map]
      rfl
    have hcase : ∀ x t, gt (drpF F id) x = some t → x ≠ id ∧ ∃ u, gt (unsF F id) x = some u ∧ t = selfS id u := fun x t ht => by
      rw [drpF_gt hs] at ht
      split at ht
      · cases ht
      · rename_i hx
        obtain ⟨u, hu, e⟩ := Option.map_eq_some_iff.1 ht
        exact ⟨hx, u, hu, e.symm⟩
    have hpar : ∀ u, (selfS id u).par = if u.par = id then 0 else u.par := fun u => by
      unfold selfS
      split <;> rfl
    have hl : Les (unsF F id) (drpF F id) := by
      refine ⟨fun x t ht => ?_, ?_, fun x t ht hp => ?_⟩
      · obtain ⟨_, u, hu, rfl⟩ := hcase x t ht
        refine ⟨u, hu, ?_⟩
        rw [hpar]
        split
        · exact .inr rfl
        · exact .inl rfl
      · rw [drpF_gt hs, if_neg (by omega), hU.zero]
        rfl
      · obtain ⟨_, u, hu, rfl⟩ := hcase x t ht
        rw [hpar] at hp ⊢
        split at hp
        · exact absurd rfl hp
        · rename_i hpi
          rw [if_neg hpi]
          obtain ⟨q, hq⟩ := hU.acy.par x u hu hp
          rw [drpF_gt hs, if_neg hpi, hq]
          exact ⟨_, rfl⟩
    refine ⟨by rw [hk]; exact hU.nod.sublist List.filter_sublist, fun x hx => ?_, ?_, hl.acy hU.acy, fun x t ht k hk' hk0 => ?_⟩
    · rw [hk] at hx
      exact hU.pos x (List.mem_filter.1 hx).1
    · rw [drpF_eq hs, List.length_map]
      exact Nat.le_trans (rm_length _ _) hU.len
    · obtain ⟨hx, u, hu, rfl⟩ := hcase x t ht
      have hk2 : k ∈ un1 u.pe.od ∨ k ∈ un1 u.ca.od ∨ k ∈ un1 u.no.od := by
        unfold selfS at hk'
        split at hk' <;> exact hk'
      obtain ⟨c, h1, h2⟩ := hU.kid x u hu k hk2 hk0
      have hki : k ≠ id := fun e => by
        rw [e] at h1
        have := unsF_par h h1
        have h3 := hU.pos' hu
        omega
      refine ⟨selfS id c, by rw [drpF_gt hs, if_neg hki, h1]; rfl, ?_⟩
      rw [hpar, h2, if_neg hx]
end Go.Proofs.YtdgknofpkafppaaDoor

/- Forests: Sub, Sync, Commit leave a forest. No program. -/
namespace Go.Proofs.YtdgknofpkafppaaDoor
open Go Go.RowKit

/-- What the parent is to have. -/
def subP (id : Int) (q : Sf) : Sf := plcS [id, 0, 0] (ordS (sg (dr id (un1 (lat q)) ++ [id])) q)
theorem subE_zero {F : Fo} {id p : Int} (h : subE F id p = 0) : ∃ s q, gt F id = some s ∧ gt F p = some q ∧ s.par = 0 ∧ ¬ Anc F p id := by
  unfold subE at h
  split at h
  · rename_i s q hs hq
    split at h
    · cases h
    · rename_i h0
      split at h
      · cases h
      · rename_i ha
        exact ⟨s, q, hs, hq, by simpa using h0, fun hh => ha (anc_true.2 hh)⟩
  · cases h
theorem subF_gt {F : Fo} {id p : Int} (h : subE F id p = 0) (x : Int) : gt (subF F id p) x = if x = p then (gt F p).map (subP id) else if x = id then (gt F id).map (fun s => { s with par := p, syn := true }) else gt F x := by
  obtain ⟨s, q, hs, hq, _, ha⟩ := subE_zero h
  have hne : p ≠ id := fun e => ha (by rw [← e]; exact .self hq)
  unfold subF
  rw [if_pos h, gt_upd]
  by_cases hx : x = p
  · rw [if_pos hx, if_pos hx, gt_upd, if_neg hne]
    rfl
  · rw [if_neg hx, if_neg hx, gt_upd]
theorem subF_keys (F : Fo) (id p : Int) : keys (subF F id p) = keys F := by
  unfold subF
  split
  · rw [keys_upd, keys_upd]
  · rfl
theorem subF_length (F : Fo) (id p : Int) : (subF F id p).length = F.length := by
  have h := congrArg List.length (subF_keys F id p)
  simpa only [keys, List.length_map] using h
theorem Inv.sub {F : Fo} (h : Inv F) (id p : Int) : Inv (subF F id p) := by
  by_cases he : subE F id p = 0
  · obtain ⟨s, q, hs, hq, h0, ha⟩ := subE_zero he
    have hne : p ≠ id := fun e => ha (by rw [← e]; exact .self hq)
    have hp1 := h.pos' hq
    have hcase : ∀ x t, gt (subF F id p) x = some t → ∃ u, gt F x = some u ∧ (x = id → t.par = p) ∧ (x ≠ id → t.par = u.par) := fun x t ht => by
      rw [subF_gt he] at ht
      split at ht
      · rename_i e
        subst e
        rw [hq] at ht
        cases ht
        exact ⟨q, hq, fun e => absurd e hne, fun _ => rfl⟩
      · split at ht
        · rename_i e
          subst e
          rw [hs] at ht
          cases ht
          exact ⟨s, hs, fun _ => rfl, fun e => absurd rfl e⟩
        · rename_i e
          exact ⟨t, ht, fun e' => absurd e' e, fun _ => rfl⟩
    have hsome : ∀ x u, gt F x = some u → ∃ t, gt (subF F id p) x = some t ∧ (x = id → t.par = p) ∧ (x ≠ id → t.par = u.par) := fun x u hu => by
      have : (gt (subF F id p) x).isSome = true := by
        rw [gt_some, subF_keys, ← gt_some, hu]
        rfl
      obtain ⟨t, ht⟩ := Option.isSome_iff_exists.1 this
      obtain ⟨u', hu', h1, h2⟩ := hcase x t ht
      rw [hu] at hu'
      cases hu'
      exact ⟨t, ht, h1, h2⟩
    have hanc : ∀ y z, Anc (subF F id p) y z → Anc F y z ∨ (Anc F y id ∧ Anc F p z) := fun y z hh => by
      induction hh with
      | self h1 =>
        obtain ⟨u, hu, _⟩ := hcase _ _ h1
        exact .inl (.self hu)
      | up h1 _ ih =>
        rename_i y' z' t _
        obtain ⟨u, hu, e1, e2⟩ := hcase _ _ h1
        by_cases hy : y' = id
        · rw [e1 hy] at ih
          rcases ih with ih | ⟨ih, _⟩
          · exact .inr ⟨by rw [hy]; exact .self hs, ih⟩
          · exact absurd ih ha
        · rw [e2 hy] at ih
          rcases ih with ih | ⟨ih, ih2⟩
          · exact .inl (.up hu ih)
          · exact .inr ⟨.up hu ih, ih2⟩
    have hkk : ∀ x k, (∃ c, gt F k = some c ∧ c.par = x) → x ≠ 0 → ∃ c, gt (subF F id p) k = some c ∧ c.par = x := fun x k hc hx => by
      obtain ⟨c, h1, h2⟩ := hc
      obtain ⟨t, h3, _, h4⟩ := hsome _ _ h1
      refine ⟨t, h3, ?_⟩
      rw [h4 (fun e => by
        rw [e, hs] at h1
        cases h1
        exact hx (by rw [← h2, h0]))]
      exact h2
    refine ⟨by rw [subF_keys]; exact h.nod, by rw [subF_keys]; exact h.pos, by rw [subF_length]; exact h.len, ⟨fun x t ht hh => ?_, fun x t ht hp => ?_⟩, fun x t ht k hk hk0 => ?_⟩
    · obtain ⟨u, hu, e1, e2⟩ := hcase x t ht
      by_cases hx : x = id
      · rw [e1 hx, hx] at hh
        rcases hanc _ _ hh with hh | ⟨hh, _⟩
        · exact ha hh
        · exact ha hh
      · rw [e2 hx] at hh
        rcases hanc _ _ hh with hh | ⟨hh, hh2⟩
        · exact h.acy.no x u hu hh
        · exact ha (hh2.trans (.up hu hh))
    · obtain ⟨u, hu, e1, e2⟩ := hcase x t ht
      by_cases hx : x = id
      · rw [e1 hx]
        obtain ⟨t', ht', _⟩ := hsome _ _ hq
        exact ⟨t', ht'⟩
      · rw [e2 hx] at hp ⊢
        obtain ⟨q', hq'⟩ := h.acy.par x u hu hp
        obtain ⟨t', ht', _⟩ := hsome _ _ hq'
        exact ⟨t', ht'⟩
    · rw [subF_gt he] at ht
      split at ht
      · rename_i e
        subst e
        rw [hq] at ht
        cases ht
        rcases hk with hk | hk | hk
        · rcases List.mem_append.1 (mem_un1_sg.1 hk) with hk | hk
          · exact hkk _ _ (kok_lat (h.kid _ _ hq) (mem_dr.1 hk).1 hk0) (by omega)
          · simp only [List.mem_singleton] at hk
            subst hk
            obtain ⟨t', h1, h2, _⟩ := hsome _ _ hs
            exact ⟨t', h1, h2 rfl⟩
        · exact hkk _ _ (h.kid _ _ hq k (.inr (.inl hk)) hk0) (by omega)
        · exact hkk _ _ (h.kid _ _ hq k (.inr (.inr hk)) hk0) (by omega)
      · have hx1 : ∀ u, gt F x = some u → x ≠ 0 := fun u hu => by
          have := h.pos' hu
          omega
        split at ht
        · rename_i e
          subst e
          rw [hs] at ht
          cases ht
          exact hkk _ _ (h.kid _ _ hs k hk hk0) (hx1 _ hs)
        · exact hkk _ _ (h.kid _ _ ht k hk hk0) (hx1 _ ht)
  · unfold subF
    rw [if_neg he]
    exact h

theorem Inv.syn {F : Fo} (h : Inv F) (id : Int) (on : Bool) : Inv (synF F id on) := by
  unfold synF
  split
  · exact h
  · rename_i s hs
    split
    · exact h
    · have hg : ∀ x, gt (st F id { s with syn := on }) x = if x = id then some { s with syn := on } else gt F x := fun x => by
        rw [gt_st, hs]
        rfl
      have hcase : ∀ x t, gt (st F id { s with syn := on }) x = some t → ∃ u, gt F x = some u ∧ t.par = u.par ∧ t.pe = u.pe ∧ t.ca = u.ca ∧ t.no = u.no := fun x t ht => by
        rw [hg] at ht
        split at ht
        · rename_i e
          subst e
          cases ht
          exact ⟨s, hs, rfl, rfl, rfl, rfl⟩
        · exact ⟨t, ht, rfl, rfl, rfl, rfl⟩
      have hsome : ∀ x u, gt F x = some u → ∃ t, gt (st F id { s with syn := on }) x = some t ∧ t.par = u.par := fun x u hu => by
        rw [hg]
        by_cases hx : x = id
        · rw [if_pos hx]
          rw [hx, hs] at hu
          cases hu
          exact ⟨_, rfl, rfl⟩
        · rw [if_neg hx]
          exact ⟨u, hu, rfl⟩
      have hl : Les F (st F id { s with syn := on }) := by
        refine ⟨fun x t ht => ?_, ?_, fun x t ht hp => ?_⟩
        · obtain ⟨u, hu, e, _⟩ := hcase x t ht
          exact ⟨u, hu, .inl e⟩
        · rw [gt_none, keys_st]
          exact gt_none.1 h.zero
        · obtain ⟨u, hu, e, _⟩ := hcase x t ht
          rw [e] at hp ⊢
          obtain ⟨q, hq⟩ := h.acy.par x u hu hp
          obtain ⟨t', ht', _⟩ := hsome _ _ hq
          exact ⟨t', ht'⟩
      refine ⟨by rw [keys_st]; exact h.nod, by rw [keys_st]; exact h.pos, by rw [st, List.length_map]; exact h.len, hl.acy h.acy, fun x t ht k hk hk0 => ?_⟩
      obtain ⟨u, hu, e, e1, e2, e3⟩ := hcase x t ht
      rw [e1, e2, e3] at hk
      obtain ⟨c, h1, h2⟩ := h.kid x u hu k hk hk0
      obtain ⟨t', h3, h4⟩ := hsome _ _ h1
      exact ⟨t', h3, by rw [h4, h2]⟩

theorem mrg_mem {a b : Sq} {k : Int} (h : k ∈ un1 (mrg a b).od) : k ∈ un1 a.od ∨ k ∈ un1 b.od := by
  simp only [mrg] at h
  cases hb : b.ord with
  | true => rw [hb] at h; exact .inr h
  | false => rw [hb] at h; exact .inl h
theorem apl_mem {a b : Sq} {k : Int} (h : k ∈ un1 (apl a b).od) : k ∈ un1 a.od ∨ k ∈ un1 b.od := mrg_mem h
/-- Applied, or cached: no other children. -/
theorem kok_apl {F : Fo} {x : Int} {s : Sf} (h : Kok F x s) : Kok F x (aplS s) := fun k hk h0 => by
  rcases hk with hk | hk | hk
  · exact h k (.inl hk) h0
  · cases hk
  · rcases apl_mem hk with hk | hk
    · exact h k (.inr (.inr hk)) h0
    · exact h k (.inr (.inl hk)) h0
/-- Held back. -/
def cacS (s : Sf) : Sf := { s with ca := mrg s.ca s.pe, pe := sq0 }
/-- Come. -/
def comS (s : Sf) : Sf := { s with no := apl s.no (mrg s.ca s.pe), ca := sq0, pe := sq0 }
theorem kok_cac {F : Fo} {x : Int} {s : Sf} (h : Kok F x s) : Kok F x (cacS s) := fun k hk h0 => by
  rcases hk with hk | hk | hk
  · cases hk
  · rcases mrg_mem hk with hk | hk
    · exact h k (.inr (.inl hk)) h0
    · exact h k (.inl hk) h0
  · exact h k (.inr (.inr hk)) h0
theorem kok_com {F : Fo} {x : Int} {s : Sf} (h : Kok F x s) : Kok F x (comS s) := fun k hk h0 => by
  rcases hk with hk | hk | hk
  · cases hk
  · cases hk
  · rcases apl_mem hk with hk | hk
    · exact h k (.inr (.inr hk)) h0
    · rcases mrg_mem hk with hk | hk
      · exact h k (.inr (.inl hk)) h0
      · exact h k (.inl hk) h0
theorem Inv.apls {F : Fo} (h : Inv F) (id : Int) : Inv (upd F id aplS) := h.turn id aplS (fun _ => ⟨rfl, rfl⟩) fun s hs => kok_apl (h.kid id s hs)
theorem Inv.cacs {F : Fo} (h : Inv F) (id : Int) : Inv (upd F id cacS) := h.turn id cacS (fun _ => ⟨rfl, rfl⟩) fun s hs => kok_cac (h.kid id s hs)
theorem Inv.coms {F : Fo} (h : Inv F) (id : Int) : Inv (upd F id comS) := h.turn id comS (fun _ => ⟨rfl, rfl⟩) fun s hs => kok_com (h.kid id s hs)

/-- One child of a row of children. -/
noncomputable def kst (n : Nat) (r : Fo × List Int) (k : Int) : Fo × List Int := match gt r.1 k with
  | none => r
  | some c => if k = 0 ∨ sy r.1 k = false then r else if non c.ca then kds n r.1 k r.2 else kds n (upd r.1 k aplS) k (r.2 ++ [k])
theorem kds_succ (n : Nat) (F : Fo) (x : Int) (l : List Int) : kds (n + 1) F x l = match gt F x with
    | none => (F, l)
    | some s => (un1 s.no.od).foldl (kst n) (F, l) := rfl
theorem kds_inv : ∀ (n : Nat) (F : Fo) (x : Int) (l : List Int), Inv F → Inv (kds n F x l).1 ∧ Tre F (kds n F x l).1
  | 0, F, _, _, h => ⟨h, Tre.refl F⟩
  | n + 1, F, x, l, h => by
    rw [kds_succ]
    split
    · exact ⟨h, Tre.refl F⟩
    · rename_i s _
      have hst : ∀ (r : Fo × List Int) (k : Int), Inv r.1 → Inv (kst n r k).1 ∧ Tre r.1 (kst n r k).1 := fun r k hr => by
        unfold kst
        split
        · exact ⟨hr, Tre.refl _⟩
        · split
          · exact ⟨hr, Tre.refl _⟩
          · split
            · exact kds_inv n _ _ _ hr
            · have h1 := kds_inv n (upd r.1 k aplS) k (r.2 ++ [k]) (hr.apls k)
              exact ⟨h1.1, (tre_upd r.1 k aplS (fun _ => ⟨rfl, rfl⟩)).trans h1.2⟩
      have hf : ∀ (L : List Int) (r : Fo × List Int), Inv r.1 → Inv (L.foldl (kst n) r).1 ∧ Tre r.1 (L.foldl (kst n) r).1 := fun L => by
        induction L with
        | nil => exact fun r hr => ⟨hr, Tre.refl _⟩
        | cons k L ih =>
          intro r hr
          rw [List.foldl_cons]
          obtain ⟨h1, h2⟩ := hst r k hr
          obtain ⟨h3, h4⟩ := ih _ h1
          exact ⟨h3, h2.trans h4⟩
      exact hf _ (F, l) h
theorem comF_eq (n : Nat) (F : Fo) (id : Int) : comF n F id = match gt F id with
    | none => (F, [])
    | some _ => if sy F id then (upd F id cacS, []) else kds n (upd F id comS) id [id] := rfl
theorem Inv.com {F : Fo} (h : Inv F) (n : Nat) (id : Int) : Inv (comF n F id).1 := by
  rw [comF_eq]
  split
  · exact h
  · split
    · exact h.cacs id
    · exact (kds_inv n _ _ _ (h.coms id)).1
end Go.Proofs.YtdgknofpkafppaaDoor

/- Forests: how long the lists are, how far the places. No program. -/
namespace Go.Proofs.YtdgknofpkafppaaDoor
open Go Go.RowKit

/-- A child's place may be. -/
def Edg (y : List Int) : Prop := ∃ a b c, y = [a, b, c] ∧ -16777216 ≤ b ∧ b ≤ 16777216 ∧ -16777216 ≤ c ∧ c ≤ 16777216
theorem edg_le (v : Int) : -16777216 ≤ edg v ∧ edg v ≤ 16777216 := by unfold edg; omega
/-- After m calls. -/
structure Zs (m : Nat) (s : Sf) : Prop where
  dm : s.pe.dm.length + s.ca.dm.length + s.no.dm.length ≤ m
  fr : s.pe.fr.length + s.ca.fr.length + s.no.fr.length ≤ m
  pl : s.pe.pl.length + s.ca.pl.length + s.no.pl.length ≤ m
  od : s.pe.od.length ≤ m + 1 ∧ s.ca.od.length ≤ m + 1 ∧ s.no.od.length ≤ m + 1
  rg : s.pe.rg.length ≤ 20 ∧ s.ca.rg.length ≤ 20 ∧ s.no.rg.length ≤ 20
  ed : (∀ y ∈ s.pe.pl, Edg y) ∧ (∀ y ∈ s.ca.pl, Edg y) ∧ ∀ y ∈ s.no.pl, Edg y
theorem Zs.mono {m n : Nat} {s : Sf} (h : Zs m s) (hm : m ≤ n) : Zs n s := by
  obtain ⟨h1, h2, h3, h4, h5, h6⟩ := h
  exact ⟨by omega, by omega, by omega, by omega, h5, h6⟩
def Szf (m : Nat) (F : Fo) : Prop := ∀ x s, gt F x = some s → Zs m s
theorem Szf.mono {m n : Nat} {F : Fo} (h : Szf m F) (hm : m ≤ n) : Szf n F := fun x s hs => (h x s hs).mono hm
theorem Szf.turn {m n : Nat} {F : Fo} (h : Szf m F) (hm : m ≤ n) (id : Int) (f : Sf → Sf) (hf : ∀ s, Zs m s → Zs n (f s)) : Szf n (upd F id f) := fun x s hs => by
  rw [gt_upd] at hs
  split at hs
  · obtain ⟨t, ht, rfl⟩ := Option.map_eq_some_iff.1 hs
    exact hf t (h _ t ht)
  · exact (h x s hs).mono hm
theorem szf_nil : Szf 0 [] := fun _ _ h => by cases h
theorem zs_sf0 (m : Nat) : Zs m sf0 := ⟨by simp [sf0, sq0, sqA], by simp [sf0, sq0, sqA], by simp [sf0, sq0, sqA], by simp [sf0, sq0, sqA], by simp [sf0, sq0, sqA], by simp [sf0, sq0, sqA]⟩
theorem outL_length (id : Int) (l : List (List Int)) : (outL id l).length ≤ l.length := List.length_filter_le _ _
theorem mem_put1' {l : List (List Int)} {c y : List Int} (h : y ∈ put1 l c) : y = c ∨ y ∈ l := mem_put1 h
theorem mem_puts {l m : List (List Int)} : ∀ {y : List Int}, y ∈ puts l m → y ∈ l ∨ y ∈ m := by
  induction m generalizing l with
  | nil => exact fun h => .inl h
  | cons c m ih =>
    intro y h
    rw [puts_cons] at h
    rcases ih h with h | h
    · rcases mem_put1 h with h | h
      · exact .inr (by simp [h])
      · exact .inl h
    · exact .inr (by simp [h])

theorem Zs.att {m : Nat} {s : Sf} (h : Zs m s) (b : Int) : Zs (m + 1) (attS b s) := by
  obtain ⟨h1, h2, h3, h4, h5, h6⟩ := h.mono (Nat.le_succ m)
  exact ⟨h1, h2, h3, h4, h5, h6⟩
theorem Zs.dmg {m : Nat} {s : Sf} (h : Zs m s) (r : List Int) : Zs (m + 1) (dmgS r s) := by
  obtain ⟨h1, h2, h3, h4, h5, h6⟩ := h
  exact ⟨by simp only [dmgS, List.length_append, List.length_singleton]; omega, by simp only [dmgS]; omega, by simp only [dmgS]; omega, by simp only [dmgS]; omega, h5, h6⟩
theorem Zs.frm {m : Nat} {s : Sf} (h : Zs m s) (c : Int) : Zs (m + 1) (frmS c s) := by
  obtain ⟨h1, h2, h3, h4, h5, h6⟩ := h
  exact ⟨by simp only [frmS]; omega, by simp only [frmS, List.length_append, List.length_singleton]; omega, by simp only [frmS]; omega, by simp only [frmS]; omega, h5, h6⟩
theorem Zs.inp {m : Nat} {s : Sf} (h : Zs m s) (a : Bool) (l : List (List Int)) (hl : l.length ≤ 20) : Zs (m + 1) (inpS a l s) := by
  obtain ⟨h1, h2, h3, h4, h5, h6⟩ := h.mono (Nat.le_succ m)
  refine ⟨h1, h2, h3, h4, ⟨?_, h5.2.1, h5.2.2⟩, h6⟩
  show (bif a then [] else l).length ≤ 20
  cases a
  · exact hl
  · exact Nat.zero_le _
theorem Zs.plc {m : Nat} {s : Sf} (h : Zs m s) (c : List Int) (hc : Edg c) : Zs (m + 1) (plcS c s) := by
  obtain ⟨h1, h2, h3, h4, h5, h6⟩ := h
  have hl := (put1_length (l := s.pe.pl) (c := c)).2
  refine ⟨by simp only [plcS]; omega, by simp only [plcS]; omega, by simp only [plcS]; omega, by simp only [plcS]; omega, h5, fun y hy => ?_, h6.2.1, h6.2.2⟩
  rcases mem_put1 hy with rfl | hy
  · exact hc
  · exact h6.1 y hy
theorem Zs.tak {m : Nat} {s : Sf} (h : Zs m s) : Zs (m + 1) (takS s) := by
  obtain ⟨h1, h2, h3, h4, h5, h6⟩ := h
  exact ⟨by simp only [takS]; omega, by simp only [takS, List.length_nil]; omega, by simp only [takS]; omega, by simp only [takS]; omega, h5, h6⟩
theorem Zs.ord {m : Nat} {s : Sf} (h : Zs m s) (l : List Int) (hl : l.length ≤ m + 2) : Zs (m + 1) (ordS (sg l) s) := by
  obtain ⟨h1, h2, h3, h4, h5, h6⟩ := h
  exact ⟨by simp only [ordS]; omega, by simp only [ordS]; omega, by simp only [ordS]; omega, by simp only [ordS, sg_length]; omega, h5, h6⟩
theorem Zs.out {m : Nat} {s : Sf} (h : Zs m s) (id : Int) : Zs m (outS id s) := by
  obtain ⟨h1, h2, h3, h4, h5, h6⟩ := h
  have a1 := outL_length id s.pe.od
  have a2 := outL_length id s.ca.od
  have a3 := outL_length id s.no.od
  have b1 := outL_length id s.pe.pl
  have b2 := outL_length id s.ca.pl
  have b3 := outL_length id s.no.pl
  exact ⟨h1, h2, by simp only [outS, outQ]; omega, by simp only [outS, outQ]; omega, h5, fun y hy => h6.1 y (List.mem_filter.1 hy).1, fun y hy => h6.2.1 y (List.mem_filter.1 hy).1, fun y hy => h6.2.2 y (List.mem_filter.1 hy).1⟩
theorem Zs.par {m : Nat} {s : Sf} (h : Zs m s) (p : Int) (b : Bool) : Zs m { s with par := p, syn := b } := ⟨h.dm, h.fr, h.pl, h.od, h.rg, h.ed⟩
theorem lat_length {m : Nat} {s : Sf} (h : Zs m s) : (lat s).length ≤ m + 1 := by
  obtain ⟨h1, h2, h3⟩ := h.od
  unfold lat
  cases s.pe.ord
  · cases s.ca.ord
    · exact h3
    · exact h2
  · exact h1
theorem mrg_rg {a b : Sq} (ha : a.rg.length ≤ 20) (hb : b.rg.length ≤ 20) : (mrg a b).rg.length ≤ 20 := by
  simp only [mrg]
  cases b.inp
  · exact ha
  · exact hb
theorem mrg_odl {a b : Sq} {m : Nat} (ha : a.od.length ≤ m) (hb : b.od.length ≤ m) : (mrg a b).od.length ≤ m := by
  simp only [mrg]
  cases b.ord
  · exact ha
  · exact hb
theorem mrg_edg {a b : Sq} (ha : ∀ y ∈ a.pl, Edg y) (hb : ∀ y ∈ b.pl, Edg y) : ∀ y ∈ (mrg a b).pl, Edg y := fun y hy => by
  rcases mem_puts hy with hy | hy
  · exact ha y hy
  · exact hb y hy
theorem Zs.apls {m : Nat} {s : Sf} (h : Zs m s) : Zs m (aplS s) := by
  obtain ⟨h1, h2, h3, h4, h5, h6⟩ := h
  have hp := puts_length s.no.pl s.ca.pl
  refine ⟨by simp only [aplS, apl, sq0, List.length_nil]; omega, by simp only [aplS, apl, mrg, sq0, List.length_nil, List.length_append]; omega, by simp only [aplS, apl, mrg, sq0, List.length_nil]; omega, ⟨h4.1, by simp [aplS, sq0], mrg_odl (a := s.no) (b := s.ca) h4.2.2 h4.2.1⟩, ⟨h5.1, by simp [aplS, sq0], mrg_rg (a := s.no) (b := s.ca) h5.2.2 h5.2.1⟩, h6.1, by simp [aplS, sq0], mrg_edg (a := s.no) (b := s.ca) h6.2.2 h6.2.1⟩
theorem Zs.cacs {m : Nat} {s : Sf} (h : Zs m s) : Zs m (cacS s) := by
  obtain ⟨h1, h2, h3, h4, h5, h6⟩ := h
  have hp := puts_length s.ca.pl s.pe.pl
  refine ⟨by simp only [cacS, mrg, sq0, List.length_nil, List.length_append]; omega, by simp only [cacS, mrg, sq0, List.length_nil, List.length_append]; omega, by simp only [cacS, mrg, sq0, List.length_nil]; omega, ⟨by simp [cacS, sq0], mrg_odl (a := s.ca) (b := s.pe) h4.2.1 h4.1, h4.2.2⟩, ⟨by simp [cacS, sq0], mrg_rg (a := s.ca) (b := s.pe) h5.2.1 h5.1, h5.2.2⟩, by simp [cacS, sq0], mrg_edg (a := s.ca) (b := s.pe) h6.2.1 h6.1, h6.2.2⟩
theorem coms_eq (s : Sf) : comS s = aplS (cacS s) := rfl
theorem Zs.coms {m : Nat} {s : Sf} (h : Zs m s) : Zs m (comS s) := by
  rw [coms_eq]
  exact h.cacs.apls

theorem Szf.add {m : Nat} {F : Fo} (h : Szf m F) (id : Int) : Szf (m + 1) (addF F id) := by
  unfold addF
  split
  · intro x s hs
    rw [gt_app] at hs
    split at hs
    · exact (h x s hs).mono (Nat.le_succ m)
    · split at hs
      · cases hs
        exact zs_sf0 _
      · cases hs
  · exact h.mono (Nat.le_succ m)
theorem Szf.uns {m : Nat} {F : Fo} (h : Szf m F) (id : Int) : Szf m (unsF F id) := by
  unfold unsF
  split
  · exact h
  · split
    · exact h
    · exact (h.turn (Nat.le_refl m) _ _ fun s hs => hs.out id).turn (Nat.le_refl m) _ _ fun s hs => hs.par 0 s.syn
theorem Szf.drp {m : Nat} {F : Fo} (h : Szf m F) (id : Int) : Szf m (drpF F id) := by
  cases hs : gt F id with
  | none =>
    unfold drpF
    rw [hs]
    exact h
  | some s =>
    intro x t ht
    rw [drpF_gt hs] at ht
    split at ht
    · cases ht
    · obtain ⟨u, hu, rfl⟩ := Option.map_eq_some_iff.1 ht
      have := h.uns id x u hu
      unfold selfS
      split
      · exact this.par 0 u.syn
      · exact this
theorem Zs.subP {m : Nat} {s : Sf} (h : Zs m s) (id : Int) : Zs (m + 1) (subP id s) := by
  have hl := lat_length h
  have hd := dr_length id (un1 (lat s))
  rw [un1_length] at hd
  obtain ⟨h1, h2, h3, h4, h5, h6⟩ := h
  have hp := (put1_length (l := s.pe.pl) (c := [id, 0, 0])).2
  refine ⟨by simp only [Go.Proofs.YtdgknofpkafppaaDoor.subP, plcS, ordS]; omega, by simp only [Go.Proofs.YtdgknofpkafppaaDoor.subP, plcS, ordS]; omega, by simp only [Go.Proofs.YtdgknofpkafppaaDoor.subP, plcS, ordS]; omega, ?_, h5, fun y hy => ?_, h6.2.1, h6.2.2⟩
  · simp only [Go.Proofs.YtdgknofpkafppaaDoor.subP, plcS, ordS, sg_length, List.length_append, List.length_singleton]
    omega
  · rcases mem_put1 hy with rfl | hy
    · exact ⟨id, 0, 0, rfl, by decide, by decide, by decide, by decide⟩
    · exact h6.1 y hy
theorem Szf.sub {m : Nat} {F : Fo} (h : Szf m F) (id p : Int) : Szf (m + 1) (subF F id p) := by
  unfold subF
  split
  · exact (h.turn (Nat.le_refl m) _ _ fun s hs => hs.par p true).turn (Nat.le_succ m) _ _ fun s hs => hs.subP id
  · exact h.mono (Nat.le_succ m)
theorem Szf.posn {m : Nat} {F : Fo} (h : Szf m F) (id x y : Int) : Szf (m + 1) (posF F id x y) := by
  unfold posF
  split
  · exact h.mono (Nat.le_succ m)
  · split
    · exact h.mono (Nat.le_succ m)
    · exact h.turn (Nat.le_succ m) _ _ fun s hs => hs.plc _ ⟨id, edg x, edg y, rfl, (edg_le x).1, (edg_le x).2, (edg_le y).1, (edg_le y).2⟩
theorem bes_len {l m : List Int} {id by_ : Int} {b : Nat} (h : bes l id by_ b = some m) : m.length ≤ l.length + 1 := by
  unfold bes at h
  split at h
  · cases h
  · obtain ⟨i, _, rfl⟩ := Option.map_eq_some_iff.1 h
    rw [ins_length]
    have := dr_length id l
    omega
theorem putL_length {F : Fo} {m : Nat} (h : Szf m F) {id by_ : Int} {b : Nat} {p : Int} {l : List Int} (hp : putL F id by_ b = some (p, l)) : l.length ≤ m + 2 := by
  unfold putL at hp
  split at hp
  · cases hp
  · split at hp
    · cases hp
    · split at hp
      · cases hp
      · rename_i q hq
        have hl := lat_length (h _ _ hq)
        split at hp
        · obtain ⟨m', hm, e⟩ := Option.map_eq_some_iff.1 hp
          cases e
          have := bes_len hm
          rw [un1_length] at this
          omega
        · split at hp
          · cases hp
          · obtain ⟨m', hm, e⟩ := Option.map_eq_some_iff.1 hp
            cases e
            have := bes_len hm
            rw [un1_length] at this
            omega
theorem Szf.put {m : Nat} {F : Fo} (h : Szf m F) (id by_ : Int) (b : Nat) : Szf (m + 1) (putF F id by_ b) := by
  unfold putF
  split
  · exact h.mono (Nat.le_succ m)
  · rename_i p l hp
    exact h.turn (Nat.le_succ m) _ _ fun s hs => hs.ord l (putL_length h hp)
theorem Szf.syn {m : Nat} {F : Fo} (h : Szf m F) (id : Int) (on : Bool) : Szf m (synF F id on) := by
  unfold synF
  split
  · exact h
  · rename_i s hs
    split
    · exact h
    · intro x t ht
      rw [gt_st] at ht
      split at ht
      · rw [hs] at ht
        cases ht
        exact (h _ _ hs).par s.par on
      · exact h x t ht
theorem kds_szf {m : Nat} : ∀ (n : Nat) (F : Fo) (x : Int) (l : List Int), Szf m F → Szf m (kds n F x l).1
  | 0, _, _, _, h => h
  | n + 1, F, x, l, h => by
    rw [kds_succ]
    split
    · exact h
    · have hst : ∀ (r : Fo × List Int) (k : Int), Szf m r.1 → Szf m (kst n r k).1 := fun r k hr => by
        unfold kst
        split
        · exact hr
        · split
          · exact hr
          · split
            · exact kds_szf n _ _ _ hr
            · exact kds_szf n _ _ _ (hr.turn (Nat.le_refl m) _ _ fun s hs => hs.apls)
      have hf : ∀ (L : List Int) (r : Fo × List Int), Szf m r.1 → Szf m (L.foldl (kst n) r).1 := fun L => by
        induction L with
        | nil => exact fun r hr => hr
        | cons k L ih => exact fun r hr => ih _ (hst r k hr)
      exact hf _ (F, l) h
theorem Szf.com {m : Nat} {F : Fo} (h : Szf m F) (n : Nat) (id : Int) : Szf m (comF n F id).1 := by
  rw [comF_eq]
  split
  · exact h
  · split
    · exact h.turn (Nat.le_refl m) _ _ fun s hs => hs.cacs
    · exact kds_szf n _ _ _ (h.turn (Nat.le_refl m) _ _ fun s hs => hs.coms)
end Go.Proofs.YtdgknofpkafppaaDoor

/- Slices of rectangles, numbers and children: compared, copied, joined. Written by state/mk_stab.py. -/
namespace Go.Proofs.YtdgknofpkafppaaDoor
open Go Go.RowKit

theorem infoMP {P : Program} {e : TypeId} {z : Value} {n m : Nat} (h : (P.info? e).map (fun i => (i.zero, i.size, i.bytes)) = some (some z, n, m)) : ∃ i, P.info? e = some i ∧ i.zero = some z ∧ i.size = n ∧ i.bytes = m := by
  obtain ⟨i, hi, hz⟩ := Option.map_eq_some_iff.1 h
  simp only [Prod.mk.injEq] at hz
  exact ⟨i, hi, hz.1, hz.2.1, hz.2.2⟩
theorem fitsM {need b : Nat} (h : need ≤ 1000000000) (hb : b ≤ 32) : ∀ old, old < need → Builtin.nextslicecap need old * b ≤ 281474976710656 := fun old ho => by
  have h1 := nextslicecap_near ho
  have h2 : Builtin.nextslicecap need old * b ≤ Builtin.nextslicecap need old * 32 := Nat.mul_le_mul_left _ hb
  omega

/-- Whether two are the same. -/
def leq (x y : List Int) : Bool := decide (x = y)
def leqs (l m : List (List Int)) : Bool := decide (l = m)
theorem leqs_cons (x y : List Int) (l m : List (List Int)) : leqs (x :: l) (y :: m) = (leq x y && leqs l m) := by
  unfold leqs leq
  rw [Bool.eq_iff_iff]
  simp
theorem leqs_len {l m : List (List Int)} (h : l.length ≠ m.length) : leqs l m = false := by
  unfold leqs
  rw [decide_eq_false_iff_not]
  intro e
  exact h (by rw [e])
theorem leqs_same (l : List (List Int)) : leqs l l = true := decide_eq_true rfl
theorem leq_one (x y : Int) : leq [x] [y] = (x == y) := by
  unfold leq
  rw [Bool.eq_iff_iff]
  simp

/-- A row of slices: each cell of the block B bears one. -/
structure RdL (m : Nat) (w : World) (B : Nat) (L : List (List (List Int))) : Prop where
  each : ∀ (j : Nat) l, L[j]? = some l → ∃ a n c, w.cell? ⟨B, j, none⟩ = some (.slice a n c) ∧ RdM m w a n c l ∧ B < w.heap.size
theorem RdL.on {m : Nat} {w u : World} {B : Nat} {L : List (List (List Int))} (h : RdL m w B L) (hb : Below w.heap.size w u) : RdL m u B L :=
  ⟨fun j l hl => by
    obtain ⟨a, n, c, h1, h2, h3⟩ := h.each j l hl
    exact ⟨a, n, c, by rw [hb.cell h3]; exact h1, h2.on hb, Nat.lt_of_lt_of_le h3 hb.size⟩⟩
theorem flatten_take_snoc {L : List (List (List Int))} {j : Nat} {l : List (List Int)} (h : L[j]? = some l) : (L.take (j + 1)).flatten = (L.take j).flatten ++ l := by
  rw [List.take_add_one, h]
  simp
theorem flatten_take_le (L : List (List (List Int))) (j : Nat) : (L.take j).flatten.length ≤ L.flatten.length := by
  have : L.flatten = (L.take j).flatten ++ (L.drop j).flatten := by rw [← List.flatten_append, List.take_append_drop]
  rw [this, List.length_append]
  omega

theorem eqlM4_guard (x y : Operand) (xs ys : Array Value) (w : World) : (eqGuard .eql 91 x y (.agg xs) (.agg ys)).run Tryd.prog w = .ok () w := run_eqGuard_agg w .eql 91 x y xs ys (by kernel_rfl)
theorem neqM4_guard (x y : Operand) (xs ys : Array Value) (w : World) : (eqGuard .neq 91 x y (.agg xs) (.agg ys)).run Tryd.prog w = .ok () w := run_eqGuard_agg w .neq 91 x y xs ys (by kernel_rfl)
theorem equalM4 (x0 x1 x2 x3 y0 y1 y2 y3 : Int) (w : World) : (Op.equalIn 10000 91 (.agg #[.int .i64 x0, .int .i64 x1, .int .i64 x2, .int .i64 x3]) (.agg #[.int .i64 y0, .int .i64 y1, .int .i64 y2, .int .i64 y3])).run Tryd.prog w = .ok (leq [x0, x1, x2, x3] [y0, y1, y2, y3]) w := by
  have u3 := Tryd.underlying3
  have a3 := Tryd.isAgg3
  have z3 := Tryd.sizeOf3
  have hS : Tryd.prog.underlying 91 = some (.struct (Tryd.prog.fieldsOf 91)) := by kernel_rfl
  have hp : Tryd.prog.stoodInHeld 91 = false := by kernel_rfl
  rw [show (10000 : Nat) = 9999 + 1 from rfl, run_equalIn_agg w 9999 91 _ _ hS hp]
  simp only [Program.fieldsOf, Tryd.underlying91]
  go_simp
  unfold leq
  by_cases h0 : x0 = y0 <;> by_cases h1 : x1 = y1 <;> by_cases h2 : x2 = y2 <;> by_cases h3 : x3 = y3 <;> simp [h0, h1, h2, h3]
theorem eqlM4 (x0 x1 x2 x3 y0 y1 y2 y3 : Int) (w : World) : (binOp .eql 91 (.agg #[.int .i64 x0, .int .i64 x1, .int .i64 x2, .int .i64 x3]) (.agg #[.int .i64 y0, .int .i64 y1, .int .i64 y2, .int .i64 y3])).run Tryd.prog w = .ok (.bool (leq [x0, x1, x2, x3] [y0, y1, y2, y3])) w := by
  rw [run_eql_struct, equalM4]
  rfl
theorem neqM4 (x0 x1 x2 x3 y0 y1 y2 y3 : Int) (w : World) : (binOp .neq 91 (.agg #[.int .i64 x0, .int .i64 x1, .int .i64 x2, .int .i64 x3]) (.agg #[.int .i64 y0, .int .i64 y1, .int .i64 y2, .int .i64 y3])).run Tryd.prog w = .ok (.bool (!leq [x0, x1, x2, x3] [y0, y1, y2, y3])) w := by
  rw [run_neq_struct, equalM4]
  rfl

theorem eqlM3_guard (x y : Operand) (xs ys : Array Value) (w : World) : (eqGuard .eql 46 x y (.agg xs) (.agg ys)).run Tryd.prog w = .ok () w := run_eqGuard_agg w .eql 46 x y xs ys (by kernel_rfl)
theorem neqM3_guard (x y : Operand) (xs ys : Array Value) (w : World) : (eqGuard .neq 46 x y (.agg xs) (.agg ys)).run Tryd.prog w = .ok () w := run_eqGuard_agg w .neq 46 x y xs ys (by kernel_rfl)
theorem equalM3 (x0 x1 x2 y0 y1 y2 : Int) (w : World) : (Op.equalIn 10000 46 (.agg #[.int .i64 x0, .int .i64 x1, .int .i64 x2]) (.agg #[.int .i64 y0, .int .i64 y1, .int .i64 y2])).run Tryd.prog w = .ok (leq [x0, x1, x2] [y0, y1, y2]) w := by
  have u3 := Tryd.underlying3
  have a3 := Tryd.isAgg3
  have z3 := Tryd.sizeOf3
  have hS : Tryd.prog.underlying 46 = some (.struct (Tryd.prog.fieldsOf 46)) := by kernel_rfl
  have hp : Tryd.prog.stoodInHeld 46 = false := by kernel_rfl
  rw [show (10000 : Nat) = 9999 + 1 from rfl, run_equalIn_agg w 9999 46 _ _ hS hp]
  simp only [Program.fieldsOf, Tryd.underlying46]
  go_simp
  unfold leq
  by_cases h0 : x0 = y0 <;> by_cases h1 : x1 = y1 <;> by_cases h2 : x2 = y2 <;> simp [h0, h1, h2]
theorem eqlM3 (x0 x1 x2 y0 y1 y2 : Int) (w : World) : (binOp .eql 46 (.agg #[.int .i64 x0, .int .i64 x1, .int .i64 x2]) (.agg #[.int .i64 y0, .int .i64 y1, .int .i64 y2])).run Tryd.prog w = .ok (.bool (leq [x0, x1, x2] [y0, y1, y2])) w := by
  rw [run_eql_struct, equalM3]
  rfl
theorem neqM3 (x0 x1 x2 y0 y1 y2 : Int) (w : World) : (binOp .neq 46 (.agg #[.int .i64 x0, .int .i64 x1, .int .i64 x2]) (.agg #[.int .i64 y0, .int .i64 y1, .int .i64 y2])).run Tryd.prog w = .ok (.bool (!leq [x0, x1, x2] [y0, y1, y2])) w := by
  rw [run_neq_struct, equalM3]
  rfl




set_option maxRecDepth 100000 in
set_option maxHeartbeats 1000000 in
theorem sameints_any (a a' : Option Addr) (n c n' c' : Nat) (l m : List (List Int)) (w : World) (h : RdM 1 w a n c l) (h' : RdM 1 w a' n' c' m) :
    Calls Tryd.prog 47 #[.slice a n c, .slice a' n' c'] w fun e w' => e = .returned (.bool (leqs l m)) ∧ ∃ q, w' = w.drewN q := by
  have hl := h.len
  have hl' := h'.len
  have hn63 := h.small.1
  have hn63' := h'.small.1
  by_cases hnn : n = n'
  · subst hnn
    have H := hid h
    have H' := hid h'
    have HL := hid hl
    have HL' := hid hl'
    clear h h' hl hl'
    go_enter Tryd.func47, Tryd.ntmps47
    go_wp2
    go_loopw [5] (fun i wr => ∃ j : Nat, i = .int .i64 j ∧ j ≤ n ∧ leqs (l.drop j) (m.drop j) = leqs l m ∧ ∃ q, wr = w.drewN q) (fun i _ => n - (numOf i).toNat)
    case atStart => exact ⟨0, rfl, by omega, rfl, 0, rfl⟩
    case round =>
      obtain ⟨j, rfl, hj, hq, q, rfl⟩ := hrel
      by_cases hgo : j < n
      · have e1 : decide ((j : Int) < n) = true := decide_eq_true (by omega)
        have e2 : (j : Int) < n := by omega
        obtain ⟨blx, offx, x0, rfl, _, hx, c0⟩ := H.out.el1 hgo
        obtain ⟨bly, offy, y0, rfl, _, hy, d0⟩ := H'.out.el1 hgo
        have HD : Hid (leqs l m = (leq [x0] [y0] && leqs (l.drop (j + 1)) (m.drop (j + 1)))) := by
          rw [Hid, ← hq, drop_at' hx, drop_at' hy, leqs_cons]
        clear hx hy hq
        have hn0 : (x0 != y0) = !leq [x0] [y0] := by rw [leq_one]; rfl
        cases hs : leq [x0] [y0]
        · rw [hs] at hn0
          have HE : Hid (leqs l m = false) := by rw [Hid, HD.out, hs]; rfl
          clear HD
          go_wp2
          go_quiet (fail)
          go_wp2
          go_ret
          rw [HE.out, World.drewN_drewN]
          exact ⟨rfl, _, rfl⟩
        · rw [hs] at hn0
          have HE : Hid (leqs (l.drop (j + 1)) (m.drop (j + 1)) = leqs l m) := by rw [Hid, HD.out, hs]; rfl
          clear HD
          go_wp2
          go_quiet (fail)
          go_wp2
          go_roundw
          case rel => exact ⟨j + 1, by go_num, by omega, HE.out, _, rfl⟩
          case measure => simp [numOf]; omega
      · have e1 : decide ((j : Int) < n) = false := decide_eq_false (by omega)
        have HE : Hid (leqs l m = true) := by
          rw [Hid, ← hq, List.drop_eq_nil_of_le (by rw [HL.out]; omega), List.drop_eq_nil_of_le (by rw [HL'.out]; omega)]
          rfl
        clear hq
        go_wp2
        go_ret
        rw [HE.out]
        exact ⟨rfl, _, rfl⟩
  · have HE : Hid (leqs l m = false) := leqs_len (by omega)
    have e1 : ((n : Int) == n') = false := by simp; omega
    clear h h' hl hl'
    go_enter Tryd.func47, Tryd.ntmps47
    go_wp2
    go_ret
    rw [HE.out]
    exact ⟨rfl, 0, rfl⟩

set_option maxRecDepth 100000 in
set_option maxHeartbeats 1000000 in
theorem samechildren_any (a a' : Option Addr) (n c n' c' : Nat) (l m : List (List Int)) (w : World) (h : RdM 3 w a n c l) (h' : RdM 3 w a' n' c' m) :
    Calls Tryd.prog 22 #[.slice a n c, .slice a' n' c'] w fun e w' => e = .returned (.bool (leqs l m)) ∧ ∃ q, w' = w.drewN q := by
  have hl := h.len
  have hl' := h'.len
  have hn63 := h.small.1
  have hn63' := h'.small.1
  have hg := neqM3_guard
  have hne := neqM3
  by_cases hnn : n = n'
  · subst hnn
    have H := hid h
    have H' := hid h'
    have HL := hid hl
    have HL' := hid hl'
    clear h h' hl hl'
    go_enter Tryd.func22, Tryd.ntmps22
    go_wp2
    go_loopw [5] (fun i wr => ∃ j : Nat, i = .int .i64 j ∧ j ≤ n ∧ leqs (l.drop j) (m.drop j) = leqs l m ∧ ∃ q, wr = w.drewN q) (fun i _ => n - (numOf i).toNat)
    case atStart => exact ⟨0, rfl, by omega, rfl, 0, rfl⟩
    case round =>
      obtain ⟨j, rfl, hj, hq, q, rfl⟩ := hrel
      by_cases hgo : j < n
      · have e1 : decide ((j : Int) < n) = true := decide_eq_true (by omega)
        have e2 : (j : Int) < n := by omega
        obtain ⟨blx, offx, x0, x1, x2, rfl, _, hx, c0, c1, c2⟩ := H.out.el3 hgo
        obtain ⟨bly, offy, y0, y1, y2, rfl, _, hy, d0, d1, d2⟩ := H'.out.el3 hgo
        have HD : Hid (leqs l m = (leq [x0, x1, x2] [y0, y1, y2] && leqs (l.drop (j + 1)) (m.drop (j + 1)))) := by
          rw [Hid, ← hq, drop_at' hx, drop_at' hy, leqs_cons]
        clear hx hy hq
        have hn0 := hne x0 x1 x2 y0 y1 y2
        cases hs : leq [x0, x1, x2] [y0, y1, y2]
        · rw [hs] at hn0
          have HE : Hid (leqs l m = false) := by rw [Hid, HD.out, hs]; rfl
          clear HD
          go_wp2
          go_quiet (fail)
          go_wp2
          go_ret
          rw [HE.out, World.drewN_drewN]
          exact ⟨rfl, _, rfl⟩
        · rw [hs] at hn0
          have HE : Hid (leqs (l.drop (j + 1)) (m.drop (j + 1)) = leqs l m) := by rw [Hid, HD.out, hs]; rfl
          clear HD
          go_wp2
          go_quiet (fail)
          go_wp2
          go_roundw
          case rel => exact ⟨j + 1, by go_num, by omega, HE.out, _, rfl⟩
          case measure => simp [numOf]; omega
      · have e1 : decide ((j : Int) < n) = false := decide_eq_false (by omega)
        have HE : Hid (leqs l m = true) := by
          rw [Hid, ← hq, List.drop_eq_nil_of_le (by rw [HL.out]; omega), List.drop_eq_nil_of_le (by rw [HL'.out]; omega)]
          rfl
        clear hq
        go_wp2
        go_ret
        rw [HE.out]
        exact ⟨rfl, _, rfl⟩
  · have HE : Hid (leqs l m = false) := leqs_len (by omega)
    have e1 : ((n : Int) == n') = false := by simp; omega
    clear h h' hl hl'
    go_enter Tryd.func22, Tryd.ntmps22
    go_wp2
    go_ret
    rw [HE.out]
    exact ⟨rfl, 0, rfl⟩

theorem infoM4 : (Tryd.prog.info? 91).map (fun i => (i.zero, i.size, i.bytes)) = some (some (.agg #[.int .i64 0, .int .i64 0, .int .i64 0, .int .i64 0]), 4, 32) := by kernel_rfl
theorem infoM1 : (Tryd.prog.info? 3).map (fun i => (i.zero, i.size, i.bytes)) = some (some (.int .i64 0), 1, 8) := by kernel_rfl
theorem infoM3 : (Tryd.prog.info? 46).map (fun i => (i.zero, i.size, i.bytes)) = some (some (.agg #[.int .i64 0, .int .i64 0, .int .i64 0]), 3, 24) := by kernel_rfl





set_option maxRecDepth 100000 in
set_option maxHeartbeats 1000000 in
theorem joined4_any (B n c : Nat) (L : List (List (List Int))) (w : World) (h : RdL 4 w B L) (hn : L.length = n) (hL : n ≤ 1000) (hs : L.flatten.length ≤ 1000000) :
    Calls Tryd.prog 58 #[.slice (some ⟨B, 0, none⟩) n c] w fun e w' => ∃ v, e = .returned v ∧ OwM 4 91 w w' v L.flatten := by
  obtain ⟨i0, hi, hz0, hz1, hz2⟩ := infoMP infoM4
  have H := hid h
  have HN := hid hn
  have HS := hid hs
  clear h hn hs
  go_enter Tryd.func58, Tryd.ntmps58
  go_wp2
  go_loopw [3, 8] (fun v i wr => ∃ j : Nat, i = .int .i64 j ∧ j ≤ n ∧ OwM 4 91 w wr v (L.take j).flatten) (fun _ i _ => n - (numOf i).toNat)
  case atStart => exact ⟨0, rfl, by omega, OwM.nil _ _ _⟩
  case round =>
    obtain ⟨j, rfl, hj, hO⟩ := hrel
    have HO := hid hO
    obtain ⟨a0, c0, rfl, -, -⟩ := hO.rd
    clear hO
    by_cases hgo : j < n
    · have e1 : decide ((j : Int) < n) = true := decide_eq_true (by omega)
      have e2 : (j : Int) < n := by omega
      obtain ⟨l, hl⟩ : ∃ l, L[j]? = some l := ⟨_, List.getElem?_eq_getElem (by rw [HN.out]; exact hgo)⟩
      obtain ⟨a, n1, c1, hc, hr, _⟩ := (H.out.on HO.out.bel).each j l hl
      have HSR := hid (hr.src (P := Tryd.prog) (t := 32) (e := 91) Tryd.underlying32)
      have hsum : (L.take j).flatten.length + n1 ≤ 1000000 := by
        have h1 := flatten_take_le L (j + 1)
        rw [flatten_take_snoc hl, List.length_append, hr.len] at h1
        have := HS.out
        omega
      have HG : Hid (∀ v' u', u'.ownsRow w.heap.size 91 4 v' ((L.take j).flatten.length + n1) (mcs (L.take j).flatten ++ mcs l) → wr.grownBy u' (Value.ownBlock (.slice a0 (L.take j).flatten.length c0)) → OwM 4 91 w u' v' (L.take (j + 1)).flatten) := fun v' u' o g => by
        rw [flatten_take_snoc hl]
        exact HO.out.grown hr.size (by rw [hr.len]; exact o) g
      have HZ := hid HO.out.own
      have hsz := HO.out.bel.size
      clear hr hl
      go_wp2_with (at_builtin; refine wpList_append_own_src _ rfl (.tmp 12) (.tmp 13) 32 32 rfl w.heap.size 91 i0 (.agg #[.int .i64 0, .int .i64 0, .int .i64 0, .int .i64 0]) 4 32 Tryd.underlying32 hi hz0 hz1 hz2 rfl _ _ _ rfl HZ.out _ _ _ rfl HSR.out (by simp only [maxLen]; omega) (fitsM (by omega) (by decide)) hsz ?_; intro v3 w3 o3 g3; have HO3 := hid (HG.out _ _ o3 g3); clear o3 g3)
      go_roundw
      case rel => exact ⟨j + 1, by go_num, by omega, HO3.out⟩
      case measure => simp [numOf]; omega
    · have e1 : decide ((j : Int) < n) = false := decide_eq_false (by omega)
      obtain rfl : j = n := by omega
      have HN2 : Hid ((L.take j).flatten = L.flatten) := by rw [Hid, List.take_of_length_le (by rw [HN.out]; exact Nat.le_refl _)]
      go_wp2
      go_ret
      exact ⟨_, rfl, by rw [← HN2.out]; exact HO.out⟩

set_option maxRecDepth 100000 in
set_option maxHeartbeats 1000000 in
theorem joined1_any (B n c : Nat) (L : List (List (List Int))) (w : World) (h : RdL 1 w B L) (hn : L.length = n) (hL : n ≤ 1000) (hs : L.flatten.length ≤ 1000000) :
    Calls Tryd.prog 59 #[.slice (some ⟨B, 0, none⟩) n c] w fun e w' => ∃ v, e = .returned v ∧ OwM 1 3 w w' v L.flatten := by
  obtain ⟨i0, hi, hz0, hz1, hz2⟩ := infoMP infoM1
  have H := hid h
  have HN := hid hn
  have HS := hid hs
  clear h hn hs
  go_enter Tryd.func59, Tryd.ntmps59
  go_wp2
  go_loopw [3, 8] (fun v i wr => ∃ j : Nat, i = .int .i64 j ∧ j ≤ n ∧ OwM 1 3 w wr v (L.take j).flatten) (fun _ i _ => n - (numOf i).toNat)
  case atStart => exact ⟨0, rfl, by omega, OwM.nil _ _ _⟩
  case round =>
    obtain ⟨j, rfl, hj, hO⟩ := hrel
    have HO := hid hO
    obtain ⟨a0, c0, rfl, -, -⟩ := hO.rd
    clear hO
    by_cases hgo : j < n
    · have e1 : decide ((j : Int) < n) = true := decide_eq_true (by omega)
      have e2 : (j : Int) < n := by omega
      obtain ⟨l, hl⟩ : ∃ l, L[j]? = some l := ⟨_, List.getElem?_eq_getElem (by rw [HN.out]; exact hgo)⟩
      obtain ⟨a, n1, c1, hc, hr, _⟩ := (H.out.on HO.out.bel).each j l hl
      have HSR := hid (hr.src (P := Tryd.prog) (t := 22) (e := 3) Tryd.underlying22)
      have hsum : (L.take j).flatten.length + n1 ≤ 1000000 := by
        have h1 := flatten_take_le L (j + 1)
        rw [flatten_take_snoc hl, List.length_append, hr.len] at h1
        have := HS.out
        omega
      have HG : Hid (∀ v' u', u'.ownsRow w.heap.size 3 1 v' ((L.take j).flatten.length + n1) (mcs (L.take j).flatten ++ mcs l) → wr.grownBy u' (Value.ownBlock (.slice a0 (L.take j).flatten.length c0)) → OwM 1 3 w u' v' (L.take (j + 1)).flatten) := fun v' u' o g => by
        rw [flatten_take_snoc hl]
        exact HO.out.grown hr.size (by rw [hr.len]; exact o) g
      have HZ := hid HO.out.own
      have hsz := HO.out.bel.size
      clear hr hl
      go_wp2_with (at_builtin; refine wpList_append_own_src _ rfl (.tmp 12) (.tmp 13) 22 22 rfl w.heap.size 3 i0 (.int .i64 0) 1 8 Tryd.underlying22 hi hz0 hz1 hz2 rfl _ _ _ rfl HZ.out _ _ _ rfl HSR.out (by simp only [maxLen]; omega) (fitsM (by omega) (by decide)) hsz ?_; intro v3 w3 o3 g3; have HO3 := hid (HG.out _ _ o3 g3); clear o3 g3)
      go_roundw
      case rel => exact ⟨j + 1, by go_num, by omega, HO3.out⟩
      case measure => simp [numOf]; omega
    · have e1 : decide ((j : Int) < n) = false := decide_eq_false (by omega)
      obtain rfl : j = n := by omega
      have HN2 : Hid ((L.take j).flatten = L.flatten) := by rw [Hid, List.take_of_length_le (by rw [HN.out]; exact Nat.le_refl _)]
      go_wp2
      go_ret
      exact ⟨_, rfl, by rw [← HN2.out]; exact HO.out⟩

set_option maxRecDepth 100000 in
set_option maxHeartbeats 1000000 in
theorem joined3_any (B n c : Nat) (L : List (List (List Int))) (w : World) (h : RdL 3 w B L) (hn : L.length = n) (hL : n ≤ 1000) (hs : L.flatten.length ≤ 1000000) :
    Calls Tryd.prog 73 #[.slice (some ⟨B, 0, none⟩) n c] w fun e w' => ∃ v, e = .returned v ∧ OwM 3 46 w w' v L.flatten := by
  obtain ⟨i0, hi, hz0, hz1, hz2⟩ := infoMP infoM3
  have H := hid h
  have HN := hid hn
  have HS := hid hs
  clear h hn hs
  go_enter Tryd.func73, Tryd.ntmps73
  go_wp2
  go_loopw [3, 8] (fun v i wr => ∃ j : Nat, i = .int .i64 j ∧ j ≤ n ∧ OwM 3 46 w wr v (L.take j).flatten) (fun _ i _ => n - (numOf i).toNat)
  case atStart => exact ⟨0, rfl, by omega, OwM.nil _ _ _⟩
  case round =>
    obtain ⟨j, rfl, hj, hO⟩ := hrel
    have HO := hid hO
    obtain ⟨a0, c0, rfl, -, -⟩ := hO.rd
    clear hO
    by_cases hgo : j < n
    · have e1 : decide ((j : Int) < n) = true := decide_eq_true (by omega)
      have e2 : (j : Int) < n := by omega
      obtain ⟨l, hl⟩ : ∃ l, L[j]? = some l := ⟨_, List.getElem?_eq_getElem (by rw [HN.out]; exact hgo)⟩
      obtain ⟨a, n1, c1, hc, hr, _⟩ := (H.out.on HO.out.bel).each j l hl
      have HSR := hid (hr.src (P := Tryd.prog) (t := 33) (e := 46) Tryd.underlying33)
      have hsum : (L.take j).flatten.length + n1 ≤ 1000000 := by
        have h1 := flatten_take_le L (j + 1)
        rw [flatten_take_snoc hl, List.length_append, hr.len] at h1
        have := HS.out
        omega
      have HG : Hid (∀ v' u', u'.ownsRow w.heap.size 46 3 v' ((L.take j).flatten.length + n1) (mcs (L.take j).flatten ++ mcs l) → wr.grownBy u' (Value.ownBlock (.slice a0 (L.take j).flatten.length c0)) → OwM 3 46 w u' v' (L.take (j + 1)).flatten) := fun v' u' o g => by
        rw [flatten_take_snoc hl]
        exact HO.out.grown hr.size (by rw [hr.len]; exact o) g
      have HZ := hid HO.out.own
      have hsz := HO.out.bel.size
      clear hr hl
      go_wp2_with (at_builtin; refine wpList_append_own_src _ rfl (.tmp 12) (.tmp 13) 33 33 rfl w.heap.size 46 i0 (.agg #[.int .i64 0, .int .i64 0, .int .i64 0]) 3 24 Tryd.underlying33 hi hz0 hz1 hz2 rfl _ _ _ rfl HZ.out _ _ _ rfl HSR.out (by simp only [maxLen]; omega) (fitsM (by omega) (by decide)) hsz ?_; intro v3 w3 o3 g3; have HO3 := hid (HG.out _ _ o3 g3); clear o3 g3)
      go_roundw
      case rel => exact ⟨j + 1, by go_num, by omega, HO3.out⟩
      case measure => simp [numOf]; omega
    · have e1 : decide ((j : Int) < n) = false := decide_eq_false (by omega)
      obtain rfl : j = n := by omega
      have HN2 : Hid ((L.take j).flatten = L.flatten) := by rw [Hid, List.take_of_length_le (by rw [HN.out]; exact Nat.le_refl _)]
      go_wp2
      go_ret
      exact ⟨_, rfl, by rw [← HN2.out]; exact HO.out⟩
end Go.Proofs.YtdgknofpkafppaaDoor

/- Children: where one stands, found, put; the program's and the document's. -/
namespace Go.Proofs.YtdgknofpkafppaaDoor
open Go Go.RowKit

/-- A block whole. -/
structure Bk (u : World) (p T : Nat) (cs : Array Value) : Prop where
  obj : u.heap[p]? = some (.cells cs T (0, 0))
theorem Bk.lt {u : World} {p T : Nat} {cs : Array Value} (h : Bk u p T cs) : p < u.heap.size := (Array.getElem?_eq_some_iff.1 h.obj).1
theorem Bk.cell {u : World} {p T : Nat} {cs : Array Value} (h : Bk u p T cs) (k : Nat) : u.cell? ⟨p, k, none⟩ = cs[k]? := Lib.cell_of_heap h.obj k
theorem Bk.fz {u : World} {p T : Nat} {cs : Array Value} (h : Bk u p T cs) (k : Nat) : u.frozen? ⟨p, k, none⟩ = false := Lib.frozen_of_heap h.obj k
theorem Bk.on {u v : World} {p T : Nat} {cs : Array Value} (h : Bk u p T cs) (hb : Below u.heap.size u v) : Bk v p T cs := ⟨by rw [hb.block p h.lt]; exact h.obj⟩
theorem Bk.kp {u v : World} {p T : Nat} {cs : Array Value} (h : Bk u p T cs) {X : List Nat} (hb : Kp X u v) (hX : p ∉ X) : Bk v p T cs := ⟨hb.var h.obj hX⟩
theorem bk_new (w : World) (cs : Array Value) (T : Nat) : Bk (w.alloc (.cells cs T)) w.heap.size T cs := ⟨heap_alloc_new w _⟩
theorem Bk.set {u : World} {p T : Nat} {cs : Array Value} (h : Bk u p T cs) (k : Nat) (v : Value) : Bk (u.setCell ⟨p, k, none⟩ v) p T (cs.setIfInBounds k v) := ⟨heap_setCell_same _ p k _ _ _ h.obj⟩
theorem Bk.other {u : World} {p q T : Nat} {cs : Array Value} (h : Bk u p T cs) (hn : p ≠ q) (k : Nat) (v : Value) : Bk (u.setCell ⟨q, k, none⟩ v) p T cs := ⟨by rw [heap_setCell_other _ _ _ _ hn]; exact h.obj⟩
theorem bel_new (w : World) (o : Obj) : Below w.heap.size w (w.alloc o) := (Below.refl _ _).alloc (Nat.le_refl _) _
theorem size_new (w : World) (o : Obj) : (w.alloc o).heap.size = w.heap.size + 1 := by simp

theorem results_cell_tmp' {P : Program} {fn : Func} {p u : Tmp} {ty : TypeId} (h : fn.results = #[.cell p ty, .tmp u]) (tmps : Array Value) (w : World) (g : Nat) (t : TypeId) (cs : Array Value) (fr : Nat × Nat) (d : TypeDesc)
    (hp : tmps.getD p undef = .pointer (some ⟨g, 0, none⟩)) (hg : w.heap[g]? = some (.cells cs t fr))
    (hu : P.underlying ty = some d) (hd : (match d with | .struct _ | .array _ _ => true | _ => false) = true) (hi : (P.info? ty).map (·.size) = some cs.size) :
    (results fn tmps).run P w = .ok (.tuple #[.agg cs, tmps.getD u undef]) w := by
  have hp' : tmps[p]?.getD undef = .pointer (some ⟨g, 0, none⟩) := by simpa using hp
  simp [results, h, hp', asAddr, run_loadVar_row w g t ty cs fr d hg hu hd hi]
theorem infoCh : (Tryd.prog.info? 46).map (·.size) = some 3 := by kernel_rfl

/-- A child written at a place of a block. -/
def sto3 (u : World) (g o : Nat) (z0 z1 z2 : Int) : World := ((u.setCell ⟨g, o, none⟩ (.int .i64 z0)).setCell ⟨g, o + 1, none⟩ (.int .i64 z1)).setCell ⟨g, o + 2, none⟩ (.int .i64 z2)
theorem below_sto3 {B : Nat} {w u : World} {g : Nat} (h : Below B w u) (hg : B ≤ g) (o : Nat) (z0 z1 z2 : Int) : Below B w (sto3 u g o z0 z1 z2) := ((h.setCell (p := ⟨g, o, none⟩) hg _).setCell (p := ⟨g, o + 1, none⟩) hg _).setCell (p := ⟨g, o + 2, none⟩) hg _
theorem mcs_set3 {l : List (List Int)} (h : ∀ y ∈ l, y.length = 3) {j : Nat} (hj : j < l.length) (z0 z1 z2 : Int) : mcs (l.set j [z0, z1, z2]) = (((mcs l).set (j * 3) (.int .i64 z0)).set (j * 3 + 1) (.int .i64 z1)).set (j * 3 + 2) (.int .i64 z2) := by
  induction l generalizing j with
  | nil => simp at hj
  | cons x l ih =>
    have hx := h x (by simp)
    match x, hx with
    | [a, b, c], _ =>
      cases j with
      | zero => simp [mcs_cons]
      | succ j =>
        rw [List.set_cons_succ, mcs_cons, mcs_cons, ih (fun y hy => h y (by simp [hy])) (by simpa using hj), show (j + 1) * 3 = j * 3 + 3 by omega]
        simp only [List.map_cons, List.map_nil, List.cons_append, List.nil_append, show j * 3 + 3 + 1 = j * 3 + 1 + 3 by omega, show j * 3 + 3 + 2 = j * 3 + 2 + 3 by omega, List.set_cons_succ]
theorem OwM.sto3 {e : Nat} {w u : World} {g n c : Nat} {l : List (List Int)} (h : OwM 3 e w u (.slice (some ⟨g, 0, none⟩) n c) l) (hn : l.length = n) {j : Nat} (hj : j < n) (z0 z1 z2 : Int) : OwM 3 e w (sto3 u g (j * 3) z0 z1 z2) (.slice (some ⟨g, 0, none⟩) n c) (l.set j [z0, z1, z2]) := by
  have h1 := h.own
  rw [hn] at h1
  have hg := (h1.lt g rfl).1
  have h2 := (h1.stored (j * 3) (.int .i64 z0)).1
  have h3 := (h2.stored (j * 3 + 1) (.int .i64 z1)).1
  have h4 := (h3.stored (j * 3 + 2) (.int .i64 z2)).1
  refine ⟨by rw [List.length_set, hn, mcs_set3 h.size (by omega)]; exact h4, below_sto3 h.bel hg _ _ _ _, fun y hy => ?_⟩
  rcases List.mem_or_eq_of_mem_set hy with hy | rfl
  · exact h.size y hy
  · rfl
theorem OwM.fz {m e : Nat} {w u : World} {g n c : Nat} {l : List (List Int)} (h : OwM m e w u (.slice (some ⟨g, 0, none⟩) n c) l) (hn : l.length = n) (k : Nat) : u.frozen? ⟨g, k, none⟩ = false := by
  have h1 := h.own
  rw [hn] at h1
  exact h1.frozenAt k
/-- Where it has an element it lies in a block of its own. -/
theorem OwM.plain {m e : Nat} {w u : World} {v : Value} {l : List (List Int)} (h : OwM m e w u v l) (hl : 0 < l.length) : ∃ g c, v = .slice (some ⟨g, 0, none⟩) l.length c ∧ w.heap.size ≤ g ∧ g < u.heap.size ∧ l.length ≤ c ∧ c ≤ maxLen := by
  rcases h.own.2 with ⟨rfl, h0⟩ | ⟨g, cap, cur, rfl, hb, hg, hn, hm, _, _⟩
  · omega
  · exact ⟨g, cap, rfl, hb, (Array.getElem?_eq_some_iff.1 hg).1, hn, hm⟩

/-- What Find answers. -/
def FndV (k : Int) (l : List (List Int)) (v : Value) (b : Bool) : Prop := match fnd k l with
  | some y => v = .agg (y.map (Value.int .i64)).toArray ∧ b = true
  | none => v = .agg #[.int .i64 0, .int .i64 0, .int .i64 0] ∧ b = false

set_option maxRecDepth 100000 in
theorem idxfn_any (k : Int) (w : World) (q : Nat) (hq : w.cell? ⟨q, 0, none⟩ = some (.int .i64 k)) (z0 z1 z2 : Int) (u : World) (hu : Below w.heap.size w u) :
    Calls Tryd.prog 75 (#[.agg #[.int .i64 z0, .int .i64 z1, .int .i64 z2]] ++ #[.pointer (some ⟨q, 0, none⟩)]) u fun e w' => e = .returned (.bool (z0 == k)) ∧ Below u.heap.size u w' := by
  have hlt := World.block_lt_of_cell? w _ hq
  have hc : u.cell? ⟨q, 0, none⟩ = some (.int .i64 k) := by rw [hu.cell hlt]; exact hq
  have hb := bel_new u (.cells #[.int .i64 z0, .int .i64 z1, .int .i64 z2] 46)
  have hc2 : (u.alloc (.cells #[.int .i64 z0, .int .i64 z1, .int .i64 z2] 46)).cell? ⟨q, 0, none⟩ = some (.int .i64 k) := by rw [hb.cell (World.block_lt_of_cell? u _ hc)]; exact hc
  have HB := hid hb
  clear hb hu
  go_enter Tryd.func75, Tryd.ntmps75
  go_wp2
  go_ret
  exact ⟨rfl, HB.out⟩

set_option maxRecDepth 100000 in
set_option maxHeartbeats 1000000 in
theorem cindexg_any (a : Option Addr) (n c : Nat) (l : List (List Int)) (k : Int) (g : Nat) (lb : Array Value) (w : World) (h : RdM 3 w a n c l) (eg : ∀ args w, (callFunc g args).run Tryd.prog w = .ok (.enter g args) w)
    (hp : ∀ (z0 z1 z2 : Int) (u : World), Below w.heap.size w u → Calls Tryd.prog g (#[.agg #[.int .i64 z0, .int .i64 z1, .int .i64 z2]] ++ lb) u fun e w' => e = .returned (.bool (z0 == k)) ∧ Below u.heap.size u w') :
    Calls Tryd.prog 74 #[.slice a n c, .func (.func g) #[] lb] w fun e w' => e = .returned (.int .i64 (ixI k l)) ∧ Below w.heap.size w w' := by
  have HL := hid h.len
  have hs := h.small
  have H := hid h
  have HP := hid hp
  clear h hp
  go_enter Tryd.func74, Tryd.ntmps74
  go_wp2
  go_loopw [8] (fun i wr => ∃ j : Nat, i = .int .i64 j ∧ j ≤ n ∧ (∀ i y, i < j → l[i]? = some y → hd y ≠ k) ∧ RowKit.Below w.heap.size w wr) (fun i _ => n - (numOf i).toNat)
  case atStart => exact ⟨0, rfl, by omega, fun k r hk => absurd hk (by omega), Below.refl _ _⟩
  case round =>
    obtain ⟨j, rfl, hj, hN, hb⟩ := hrel
    have HN := hid hN
    have HB := hid hb
    clear hN hb
    by_cases hgo : j < n
    · have e1 : decide ((j : Int) < n) = true := decide_eq_true (by omega)
      obtain ⟨b, off, z0, z1, z2, rfl, _, hr, c0, c1, c2⟩ := (H.out.on HB.out).el3 hgo
      have CP := hid (HP.out z0 z1 z2 wr HB.out)
      have HR := hid hr
      have e3 : (j : Int) < n := by omega
      clear hr
      cases hq : (z0 == k)
      · rw [hq] at CP
        have HN2 : Hid (∀ i x, i < j + 1 → l[i]? = some x → hd x ≠ k) := fun i x hi hx => by
          rcases Nat.lt_or_ge i j with h | h
          · exact HN.out i x h hx
          · obtain rfl : i = j := by omega
            rw [HR.out] at hx
            cases hx
            rw [hd3]; simpa using hq
        clear hq
        go_wp2_with fail
        refine CP.out.mono ?_
        rintro e w2 ⟨rfl, hb2⟩
        have HB2 := hid (Below.on HB.out hb2)
        clear hb2
        go_wp2
        go_roundw
        case rel => exact ⟨j + 1, by go_num, by omega, HN2.out, HB2.out⟩
        case measure => simp [numOf]; omega
      · rw [hq] at CP
        have HI : Hid (ixI k l = j) := by
          rw [Hid, ixI, ixf_drop HN.out, drop_at' HR.out, ixf, if_pos (by rw [hd3]; simpa using hq)]
          simp
        clear hq
        go_wp2_with fail
        refine CP.out.mono ?_
        rintro e w2 ⟨rfl, hb2⟩
        have HB2 := hid (Below.on HB.out hb2)
        clear hb2
        go_wp2
        go_ret
        rw [HI.out]
        exact ⟨rfl, HB2.out⟩
    · have e1 : decide ((j : Int) < n) = false := decide_eq_false (by omega)
      have HI : Hid (ixI k l = -1) := by
        rw [Hid, ixI, ixf_drop HN.out, List.drop_eq_nil_of_le (by rw [HL.out]; omega)]
        rfl
      go_wp2
      go_ret
      rw [HI.out]
      exact ⟨rfl, HB.out⟩

theorem cindexfunc_any (a : Option Addr) (n c : Nat) (l : List (List Int)) (k : Int) (q : Nat) (w : World) (h : RdM 3 w a n c l) (hq : w.cell? ⟨q, 0, none⟩ = some (.int .i64 k)) :
    Calls Tryd.prog 74 #[.slice a n c, .func (.func 75) #[] #[.pointer (some ⟨q, 0, none⟩)]] w fun e w' => e = .returned (.int .i64 (ixI k l)) ∧ Below w.heap.size w w' :=
  cindexg_any a n c l k 75 _ w h (enters_of Tryd.func75 (by kernel_rfl) rfl) (fun z0 z1 z2 u hu => idxfn_any k w q hq z0 z1 z2 u hu)

set_option maxRecDepth 100000 in
theorem index_any (a : Option Addr) (n c : Nat) (l : List (List Int)) (k : Int) (w : World) (h : RdM 3 w a n c l) :
    Calls Tryd.prog 63 #[.slice a n c, .int .i64 k] w fun e w' => e = .returned (.int .i64 (ixI k l)) ∧ Below w.heap.size w w' := by
  have hb := bel_new w (.cells #[.int .i64 k] 3)
  have CI := hid (cindexfunc_any a n c l k w.heap.size _ (h.on hb) ((bk_new w #[.int .i64 k] 3).cell 0))
  have HB := hid hb
  clear h hb
  go_enter Tryd.func63, Tryd.ntmps63
  go_wp2_with fail
  refine CI.out.mono ?_
  rintro e w2 ⟨rfl, hb2⟩
  have HB2 := hid (Below.on HB.out hb2)
  clear hb2
  go_wp2
  go_ret
  exact ⟨rfl, HB2.out⟩
end Go.Proofs.YtdgknofpkafppaaDoor

/- Children found and put: Find, Put, placed; the document's Find, Put, puts; once. -/
namespace Go.Proofs.YtdgknofpkafppaaDoor
open Go Go.RowKit

theorem fndV_some {k : Int} {l : List (List Int)} {i : Nat} {z0 z1 z2 : Int} (h : ixf k l = some i) (hz : l[i]? = some [z0, z1, z2]) : FndV k l (.agg #[.int .i64 z0, .int .i64 z1, .int .i64 z2]) true := by
  obtain ⟨_, h2, _⟩ := ixf_some h
  rw [hz] at h2
  unfold FndV
  rw [h2]
  exact ⟨rfl, rfl⟩
theorem fndV_none {k : Int} {l : List (List Int)} (h : ixf k l = none) : FndV k l (.agg #[.int .i64 0, .int .i64 0, .int .i64 0]) false := by
  unfold FndV
  rw [(ixf_none h).2]
  exact ⟨rfl, rfl⟩
theorem FndV.same {k : Int} {l : List (List Int)} {v v' : Value} {b b' : Bool} (h : FndV k l v b) (h' : FndV k l v' b') : v = v' ∧ b = b' := by
  unfold FndV at h h'
  cases hf : fnd k l with
  | none => rw [hf] at h h'; exact ⟨h.1.trans h'.1.symm, h.2.trans h'.2.symm⟩
  | some y => rw [hf] at h h'; exact ⟨h.1.trans h'.1.symm, h.2.trans h'.2.symm⟩
/-- What Find hands back: a child and a truth. -/
def FndR (k : Int) (l : List (List Int)) (w : World) (e : Ending) (w' : World) : Prop := ∃ z0 z1 z2 b, e = .returned (.tuple #[.agg #[.int .i64 z0, .int .i64 z1, .int .i64 z2], .bool b]) ∧ FndV k l (.agg #[.int .i64 z0, .int .i64 z1, .int .i64 z2]) b ∧ Below w.heap.size w w'

set_option maxRecDepth 100000 in
set_option maxHeartbeats 1000000 in
theorem find_any (a : Option Addr) (n c : Nat) (l : List (List Int)) (k : Int) (w : World) (h : RdM 3 w a n c l) :
    Calls Tryd.prog 42 #[.slice a n c, .int .i64 k] w (FndR k l w) := by
  have hs := h.small
  have hl := h.len
  have hb := bel_new w (.cells #[.int .i64 0, .int .i64 0, .int .i64 0] 46)
  have h1 := h.on hb
  have CI := hid (index_any a n c l k _ h1)
  have HK := hid (bk_new w #[.int .i64 0, .int .i64 0, .int .i64 0] 46)
  have HB := hid hb
  cases hx : ixf k l with
  | none =>
    have hi : ixI k l = -1 := by rw [ixI, hx]
    rw [hi] at CI
    have HF := hid (fndV_none hx)
    clear h h1 hb hx hi hl
    go_enter Tryd.func42, Tryd.ntmps42
    go_wp2_with fail
    refine CI.out.mono ?_
    rintro e w2 ⟨rfl, hb2⟩
    have HB2 := hid (Below.on HB.out hb2)
    have HK2 := hid (HK.out.on hb2)
    have f0 := HK2.out.fz
    have c0 := HK2.out.cell 0
    have c1 := HK2.out.cell 1
    have c2 := HK2.out.cell 2
    clear hb2
    go_wp2
    refine bodyPost_ret (results_cell_tmp' rfl _ _ w.heap.size _ _ _ _ rfl (((HK2.out.set 0 _).set 1 _).set 2 _).obj Tryd.underlying46 rfl infoCh) rfl ?_
    exact ⟨0, 0, 0, false, rfl, HF.out, ((HB2.out.setCell (p := ⟨w.heap.size, 0, none⟩) (Nat.le_refl _) _).setCell (p := ⟨w.heap.size, 1, none⟩) (Nat.le_refl _) _).setCell (p := ⟨w.heap.size, 2, none⟩) (Nat.le_refl _) _⟩
  | some i =>
    have hi : ixI k l = i := by rw [ixI, hx]
    rw [hi] at CI
    have hin : i < n := by rw [← hl]; exact (ixf_some hx).1
    obtain ⟨b, off, z0, z1, z2, rfl, hb0, hz, d0, d1, d2⟩ := h1.el3 hin
    have HF := hid (fndV_some hx hz)
    have e1 : (i : Int) < n := by omega
    have e2 : (0 : Int) ≤ i := by omega
    clear h h1 hb hx hi hl hz
    have HD0 := hid d0
    have HD1 := hid d1
    have HD2 := hid d2
    clear d0 d1 d2
    go_enter Tryd.func42, Tryd.ntmps42
    go_wp2_with fail
    refine CI.out.mono ?_
    rintro e w2 ⟨rfl, hb2⟩
    have HB2 := hid (Below.on HB.out hb2)
    have HK2 := hid (HK.out.on hb2)
    have f0 := HK2.out.fz
    have c0 := HK2.out.cell 0
    have c1 := HK2.out.cell 1
    have c2 := HK2.out.cell 2
    have d0 : w2.cell? ⟨b, off + i * 3, none⟩ = some (.int .i64 z0) := by rw [hb2.cell hb0]; exact HD0.out
    have d1 : w2.cell? ⟨b, off + i * 3 + 1, none⟩ = some (.int .i64 z1) := by rw [hb2.cell hb0]; exact HD1.out
    have d2 : w2.cell? ⟨b, off + i * 3 + 2, none⟩ = some (.int .i64 z2) := by rw [hb2.cell hb0]; exact HD2.out
    clear hb2
    go_wp2
    refine bodyPost_ret (results_cell_tmp' rfl _ _ w.heap.size _ _ _ _ rfl (((HK2.out.set 0 _).set 1 _).set 2 _).obj Tryd.underlying46 rfl infoCh) rfl ?_
    exact ⟨z0, z1, z2, true, rfl, HF.out, ((HB2.out.setCell (p := ⟨w.heap.size, 0, none⟩) (Nat.le_refl _) _).setCell (p := ⟨w.heap.size, 1, none⟩) (Nat.le_refl _) _).setCell (p := ⟨w.heap.size, 2, none⟩) (Nat.le_refl _) _⟩


/-- Elements ahead of j are those of other IDs: so the whole has none. -/
theorem onc_iff {l : List (List Int)} : Onc l ↔ ∀ (i k : Nat) x y, k < i → l[k]? = some x → l[i]? = some y → hd x ≠ hd y := by
  unfold Onc
  rw [List.pairwise_iff_getElem]
  constructor
  · intro h i k x y hki hx hy
    obtain ⟨h1, rfl⟩ := List.getElem?_eq_some_iff.1 hx
    obtain ⟨h2, rfl⟩ := List.getElem?_eq_some_iff.1 hy
    exact h k i h1 h2 hki
  · intro h k i h1 h2 hki
    exact h i k _ _ hki (List.getElem?_eq_getElem h1) (List.getElem?_eq_getElem h2)

end Go.Proofs.YtdgknofpkafppaaDoor

/- Children put: placed, Put; the document's Put, puts. -/
namespace Go.Proofs.YtdgknofpkafppaaDoor
open Go Go.RowKit

theorem flat_one (l : List (List Int)) : ([l] : List (List (List Int))).flatten = l := by simp
theorem flat_two (l m : List (List Int)) : ([l, m] : List (List (List Int))).flatten = l ++ m := by simp
/-- A row of one slice, of two. -/
theorem rdl_one {m : Nat} {w : World} {a : Option Addr} {n c : Nat} {l : List (List Int)} {B T : Nat} (h : RdM m w a n c l) (hb : Bk w B T #[.slice a n c]) : RdL m w B [l] :=
  ⟨fun j x hx => by
    match j, hx with
    | 0, hx => cases hx; exact ⟨a, n, c, hb.cell 0, h, hb.lt⟩
    | j + 1, hx => simp at hx⟩
theorem rdl_two {m : Nat} {w : World} {a a' : Option Addr} {n c n' c' : Nat} {l l' : List (List Int)} {B T : Nat} (h : RdM m w a n c l) (h' : RdM m w a' n' c' l') (hb : Bk w B T #[.slice a n c, .slice a' n' c']) : RdL m w B [l, l'] :=
  ⟨fun j x hx => by
    match j, hx with
    | 0, hx => cases hx; exact ⟨a, n, c, hb.cell 0, h, hb.lt⟩
    | 1, hx => cases hx; exact ⟨a', n', c', hb.cell 1, h', hb.lt⟩
    | j + 2, hx => simp at hx⟩
theorem take_snoc {l : List (List Int)} {j : Nat} {x : List Int} (h : l[j]? = some x) : l.take (j + 1) = l.take j ++ [x] := by
  rw [List.take_add_one, h]
  rfl
/-- One element as a slice. -/
theorem src3 (w : World) (z0 z1 z2 : Int) : Src Tryd.prog 3 33 (.slice (some ⟨w.heap.size, 0, none⟩) 1 1) 1 (mcs [[z0, z1, z2]]) (w.alloc (.cells #[.int .i64 z0, .int .i64 z1, .int .i64 z2] 46)) :=
  Src.ofSlice (P := Tryd.prog) _ Tryd.underlying33 ⟨w.heap.size, 0, none⟩ 1 1 (mcs [[z0, z1, z2]]) rfl (fun q u hu => by
    match q, hu with
    | 0, hu => cases hu; simp [Addr.add]
    | 1, hu => cases hu; simp [Addr.add]
    | 2, hu => cases hu; simp [Addr.add]
    | q + 3, hu => simp [mcs] at hu) (mcs_one _)

set_option maxRecDepth 100000 in
set_option maxHeartbeats 1000000 in
theorem placed_any (a a' : Option Addr) (n c n' c' : Nat) (l m : List (List Int)) (w : World) (h : RdM 3 w a n c l) (h' : RdM 3 w a' n' c' m) (hn : n + n' ≤ 1000000) :
    Calls Tryd.prog 57 #[.slice a n c, .slice a' n' c'] w fun e w' => ∃ v, e = .returned v ∧ OwM 3 46 w w' v (puts l m) := by
  obtain ⟨i0, hi, hz0, hz1, hz2⟩ := infoMP infoM3
  have hs := h.small
  have hs' := h'.small
  have HL := hid h.len
  have HL' := hid h'.len
  have hb := bel_new w (.cells #[.slice a n c] 33)
  have CJ := joined3_any w.heap.size 1 1 [l] _ (rdl_one (h.on hb) (bk_new w #[.slice a n c] 33)) rfl (by omega) (by rw [flat_one, h.len]; omega)
  rw [flat_one] at CJ
  have HC := hid CJ
  have HB := hid hb
  have H' := hid h'
  clear h h' hb CJ
  go_enter Tryd.func57, Tryd.ntmps57
  go_wp2_with fail
  refine HC.out.mono ?_
  rintro e w1 ⟨v, rfl, hO⟩
  have HO := hid (hO.base HB.out)
  clear hO HC HB
  go_wp2
  go_loopw [5, 14] (fun v i wr => ∃ j : Nat, i = .int .i64 j ∧ j ≤ n' ∧ OwM 3 46 w wr v (puts l (m.take j))) (fun _ i _ => n' - (numOf i).toNat)
  case atStart => exact ⟨0, rfl, by omega, HO.out⟩
  case round =>
    obtain ⟨j, rfl, hj, hO⟩ := hrel
    have HO1 := hid hO
    obtain ⟨a0, c0, rfl, hrd, -⟩ := hO.rd
    clear hO HO
    by_cases hgo : j < n'
    · have e1 : decide ((j : Int) < n') = true := decide_eq_true (by omega)
      have e3 : (j : Int) < n' := by omega
      obtain ⟨b, off, z0, z1, z2, rfl, hbl, hr, d0, d1, d2⟩ := (H'.out.on HO1.out.bel).el3 hgo
      have hb2 := bel_new wr (.cells #[.int .i64 z0, .int .i64 z1, .int .i64 z2] 46)
      have HK := hid (bk_new wr #[.int .i64 z0, .int .i64 z1, .int .i64 z2] 46)
      have HB := hid hb2
      have HT : Hid (puts l (m.take (j + 1)) = put1 (puts l (m.take j)) [z0, z1, z2]) := by rw [Hid, take_snoc hr, puts_snoc]
      have hN : (puts l (m.take j)).length ≤ n + n' := by
        have h1 := puts_length l (m.take j)
        have h2 := HL.out
        rw [List.length_take] at h1
        omega
      have CI := hid (index_any _ _ _ _ z0 _ (hrd.on hb2))
      clear hr hb2
      cases hx : ixf z0 (puts l (m.take j)) with
      | some i =>
        obtain ⟨hil, -, hput⟩ := ixf_some hx
        rw [hput _ rfl] at HT
        have hixI : ixI z0 (puts l (m.take j)) = i := by rw [ixI, hx]
        rw [hixI] at CI
        obtain ⟨g, cg, hv, hg1, hg2, hg3, hg4⟩ := HO1.out.plain (by omega)
        simp only [Value.slice.injEq] at hv
        obtain ⟨rfl, -, rfl⟩ := hv
        obtain ⟨N, hNN⟩ : ∃ N, (puts l (m.take j)).length = N := ⟨_, rfl⟩
        have HNN := hid hNN
        rw [hNN] at HO1 hrd hil hg3 hN CI ⊢
        have e4 : (i : Int) < N := by omega
        have e5 : (0 : Int) ≤ i := by omega
        have HRD := hid hrd
        clear hrd hx hput hixI hNN
        simp only [maxLen] at hg4
        go_wp2_with fail
        refine CI.out.mono ?_
        rintro e w2 ⟨rfl, hb3⟩
        have hO2 := (HO1.out.on HB.out).on hb3
        have hK2 := HK.out.on hb3
        have t0 := hK2.cell 0
        have t1 := hK2.cell 1
        have t2 := hK2.cell 2
        have fz := hO2.fz HNN.out
        obtain ⟨b', off', y0, y1, y2, hab, _, _, s0, s1, s2⟩ := ((HRD.out.on HB.out).on hb3).el3 hil
        cases hab
        simp only [Nat.zero_add] at s0 s1 s2
        have HO3 := hid (hO2.sto3 HNN.out hil z0 z1 z2)
        rw [← HT.out] at HO3
        clear hO2 hK2 hb3 CI HK HB
        go_wp2
        go_roundw
        case rel => exact ⟨j + 1, by go_num, by omega, HO3.out⟩
        case measure => simp [numOf]; omega
      | none =>
        obtain ⟨hno, -⟩ := ixf_none hx
        rw [put1_none (c := [z0, z1, z2]) hno] at HT
        have hixI : ixI z0 (puts l (m.take j)) = -1 := by rw [ixI, hx]
        rw [hixI] at CI
        clear hrd hx hno hixI
        go_wp2_with fail
        refine CI.out.mono ?_
        rintro e w2 ⟨rfl, hb3⟩
        have hO2 := (HO1.out.on HB.out).on hb3
        have hK2 := HK.out.on hb3
        have t0 := hK2.cell 0
        have t1 := hK2.cell 1
        have t2 := hK2.cell 2
        have hO3 := hO2.on (bel_new w2 (.cells #[.int .i64 z0, .int .i64 z1, .int .i64 z2] 46))
        have HS := hid (src3 w2 z0 z1 z2)
        have HO3 := hid hO3
        have HZ := hid hO3.own
        have hsz := hO3.bel.size
        clear hO2 hK2 hb3 CI HK HB hO3
        go_wp2_with (at_builtin; refine wpList_append_own_src _ rfl (.tmp 28) (.tmp 30) 33 33 rfl w.heap.size 46 i0 (.agg #[.int .i64 0, .int .i64 0, .int .i64 0]) 3 24 Tryd.underlying33 hi hz0 hz1 hz2 rfl _ _ _ rfl HZ.out _ _ _ rfl HS.out (by simp only [maxLen]; omega) (fitsM (by omega) (by decide)) hsz ?_; intro v3 w3 o3 g3; have HO4 := hid (HO3.out.grown (k := [[z0, z1, z2]]) (by simp) o3 g3); rw [← HT.out] at HO4; clear o3 g3)
        go_roundw
        case rel => exact ⟨j + 1, by go_num, by omega, HO4.out⟩
        case measure => simp [numOf]; omega
    · have e1 : decide ((j : Int) < n') = false := decide_eq_false (by omega)
      have HN2 : Hid (m.take j = m) := by rw [Hid, List.take_of_length_le (by rw [HL'.out]; omega)]
      clear hrd
      go_wp2
      go_ret
      have hO := HO1.out
      rw [HN2.out] at hO ⊢
      exact ⟨_, rfl, hO⟩

theorem rdm_one3 {w : World} {B T : Nat} {z0 z1 z2 : Int} (h : Bk w B T #[.int .i64 z0, .int .i64 z1, .int .i64 z2]) : RdM 3 w (some ⟨B, 0, none⟩) 1 1 [[z0, z1, z2]] :=
  ⟨rfl, Nat.le_refl _, by decide, (fun h => by cases h), fun _ => ⟨B, 0, rfl, h.lt, fun j y hy i z hz => by
    match j, hy with
    | 0, hy =>
      cases hy
      match i, hz with
      | 0, hz => cases hz; exact h.cell 0
      | 1, hz => cases hz; exact h.cell 1
      | 2, hz => cases hz; exact h.cell 2
      | i + 3, hz => simp at hz
    | j + 1, hy => simp at hy⟩, by simp⟩

set_option maxRecDepth 100000 in
theorem sput_any (a : Option Addr) (n c : Nat) (l : List (List Int)) (z0 z1 z2 : Int) (w : World) (h : RdM 3 w a n c l) (hn : n ≤ 900000) :
    Calls Tryd.prog 33 #[.slice a n c, .agg #[.int .i64 z0, .int .i64 z1, .int .i64 z2]] w fun e w' => ∃ v, e = .returned v ∧ OwM 3 46 w w' v (put1 l [z0, z1, z2]) := by
  have hb := bel_new w (.cells #[.int .i64 z0, .int .i64 z1, .int .i64 z2] 46)
  have hb2 := bel_new (w.alloc (.cells #[.int .i64 z0, .int .i64 z1, .int .i64 z2] 46)) (.cells #[.int .i64 z0, .int .i64 z1, .int .i64 z2] 46)
  have hb3 := Below.on hb hb2
  have hk := bk_new (w.alloc (.cells #[.int .i64 z0, .int .i64 z1, .int .i64 z2] 46)) #[.int .i64 z0, .int .i64 z1, .int .i64 z2] 46
  rw [size_new] at hk
  have CP := hid (placed_any a (some ⟨w.heap.size + 1, 0, none⟩) n c 1 1 l [[z0, z1, z2]] _ (h.on hb3) (rdm_one3 hk) (by omega))
  have HB := hid hb3
  clear h hb hb2 hb3 hk
  go_enter Tryd.func33, Tryd.ntmps33
  go_wp2_with fail
  refine CP.out.mono ?_
  rintro e w1 ⟨v, rfl, hO⟩
  have HO := hid (hO.base HB.out)
  clear hO CP HB
  go_wp2
  go_ret
  exact ⟨_, rfl, HO.out⟩


end Go.Proofs.YtdgknofpkafppaaDoor

/- States in memory: few, None, Same, First; the document's None. Written by state/mk_staf.py. -/
namespace Go.Proofs.YtdgknofpkafppaaDoor
open Go Go.RowKit

theorem ret_bool {a b : Bool} (h : a = b) : Ending.returned (.bool a) = Ending.returned (.bool b) := by rw [h]
/-- A slice with what it reads. -/
structure Sl where
  a : Option Addr
  n : Nat
  c : Nat
  l : List (List Int)
/-- A state's value, with what its slices read. -/
structure Sx where
  at_ : Bool
  buf : Int
  dm : Sl
  fr : Sl
  inp : Bool
  all : Bool
  rg : Sl
  ord : Bool
  od : Sl
  pl : Sl
def Sx.q (x : Sx) : Sq := ⟨x.at_, x.buf, x.dm.l, x.fr.l, x.inp, x.all, x.rg.l, x.ord, x.od.l, x.pl.l⟩
structure Sx.Ok (w : World) (x : Sx) : Prop where
  dm : RdM 4 w x.dm.a x.dm.n x.dm.c x.dm.l
  fr : RdM 1 w x.fr.a x.fr.n x.fr.c x.fr.l
  rg : RdM 4 w x.rg.a x.rg.n x.rg.c x.rg.l
  od : RdM 1 w x.od.a x.od.n x.od.c x.od.l
  pl : RdM 3 w x.pl.a x.pl.n x.pl.c x.pl.l
theorem Sx.Ok.on {w u : World} {x : Sx} (h : x.Ok w) (hb : Below w.heap.size w u) : x.Ok u := ⟨h.dm.on hb, h.fr.on hb, h.rg.on hb, h.od.on hb, h.pl.on hb⟩
/-- Nothing at all. -/
def sl0 : Sl := ⟨none, 0, 0, []⟩
def sx0 : Sx := ⟨false, 0, sl0, sl0, false, false, sl0, false, sl0, sl0⟩
theorem sx0_q : sx0.q = sq0 := rfl
theorem sx0_ok (w : World) : sx0.Ok w := ⟨RdM.nil _ _, RdM.nil _ _, RdM.nil _ _, RdM.nil _ _, RdM.nil _ _⟩
/-- How long its slices are. -/
def Sx.Len (x : Sx) (k : Nat) : Prop := x.dm.n ≤ k ∧ x.fr.n ≤ k ∧ x.rg.n ≤ k ∧ x.od.n ≤ k ∧ x.pl.n ≤ k

/-- A state in a block. -/
structure Bs (u : World) (p : Nat) (x : Sx) : Prop where
  bk : Bk u p 35 #[.bool x.at_, .int .i64 x.buf, .slice x.dm.a x.dm.n x.dm.c, .slice x.fr.a x.fr.n x.fr.c, .bool x.inp, .bool x.all, .slice x.rg.a x.rg.n x.rg.c, .bool x.ord, .slice x.od.a x.od.n x.od.c, .slice x.pl.a x.pl.n x.pl.c]
theorem Bs.all {u : World} {p : Nat} {x : Sx} (h : Bs u p x) : u.cell? ⟨p, 0, none⟩ = some (.bool x.at_) ∧ u.cell? ⟨p, 1, none⟩ = some (.int .i64 x.buf) ∧ u.cell? ⟨p, 2, none⟩ = some (.slice x.dm.a x.dm.n x.dm.c) ∧ u.cell? ⟨p, 3, none⟩ = some (.slice x.fr.a x.fr.n x.fr.c) ∧ u.cell? ⟨p, 4, none⟩ = some (.bool x.inp) ∧ u.cell? ⟨p, 5, none⟩ = some (.bool x.all) ∧ u.cell? ⟨p, 6, none⟩ = some (.slice x.rg.a x.rg.n x.rg.c) ∧ u.cell? ⟨p, 7, none⟩ = some (.bool x.ord) ∧ u.cell? ⟨p, 8, none⟩ = some (.slice x.od.a x.od.n x.od.c) ∧ u.cell? ⟨p, 9, none⟩ = some (.slice x.pl.a x.pl.n x.pl.c) :=
  ⟨h.bk.cell 0, h.bk.cell 1, h.bk.cell 2, h.bk.cell 3, h.bk.cell 4, h.bk.cell 5, h.bk.cell 6, h.bk.cell 7, h.bk.cell 8, h.bk.cell 9⟩
theorem Bs.lt {u : World} {p : Nat} {x : Sx} (h : Bs u p x) : p < u.heap.size := h.bk.lt
theorem Bs.fz {u : World} {p : Nat} {x : Sx} (h : Bs u p x) (k : Nat) : u.frozen? ⟨p, k, none⟩ = false := h.bk.fz k
theorem Bs.on {u v : World} {p : Nat} {x : Sx} (h : Bs u p x) (hb : Below u.heap.size u v) : Bs v p x := ⟨h.bk.on hb⟩
theorem Bs.other {u : World} {p q : Nat} {x : Sx} (h : Bs u p x) (hn : p ≠ q) (k : Nat) (v : Value) : Bs (u.setCell ⟨q, k, none⟩ v) p x := ⟨h.bk.other hn k v⟩
theorem bs_new (w : World) (x : Sx) : Bs (w.alloc (.cells #[.bool x.at_, .int .i64 x.buf, .slice x.dm.a x.dm.n x.dm.c, .slice x.fr.a x.fr.n x.fr.c, .bool x.inp, .bool x.all, .slice x.rg.a x.rg.n x.rg.c, .bool x.ord, .slice x.od.a x.od.n x.od.c, .slice x.pl.a x.pl.n x.pl.c] 35)) w.heap.size x := ⟨bk_new w _ _⟩
/-- What two boxes hold behind a call. -/
theorem sbox1 {w u : World} (x : Sx) (hb : Below (w.alloc (.cells #[.bool x.at_, .int .i64 x.buf, .slice x.dm.a x.dm.n x.dm.c, .slice x.fr.a x.fr.n x.fr.c, .bool x.inp, .bool x.all, .slice x.rg.a x.rg.n x.rg.c, .bool x.ord, .slice x.od.a x.od.n x.od.c, .slice x.pl.a x.pl.n x.pl.c] 35)).heap.size (w.alloc (.cells #[.bool x.at_, .int .i64 x.buf, .slice x.dm.a x.dm.n x.dm.c, .slice x.fr.a x.fr.n x.fr.c, .bool x.inp, .bool x.all, .slice x.rg.a x.rg.n x.rg.c, .bool x.ord, .slice x.od.a x.od.n x.od.c, .slice x.pl.a x.pl.n x.pl.c] 35)) u) : Bs u w.heap.size x ∧ Below w.heap.size w u := ⟨(bs_new w x).on hb, Below.on (bel_new _ _) hb⟩
theorem sbox2 {w u : World} (x y : Sx) (hb : Below ((w.alloc (.cells #[.bool x.at_, .int .i64 x.buf, .slice x.dm.a x.dm.n x.dm.c, .slice x.fr.a x.fr.n x.fr.c, .bool x.inp, .bool x.all, .slice x.rg.a x.rg.n x.rg.c, .bool x.ord, .slice x.od.a x.od.n x.od.c, .slice x.pl.a x.pl.n x.pl.c] 35)).alloc (.cells #[.bool y.at_, .int .i64 y.buf, .slice y.dm.a y.dm.n y.dm.c, .slice y.fr.a y.fr.n y.fr.c, .bool y.inp, .bool y.all, .slice y.rg.a y.rg.n y.rg.c, .bool y.ord, .slice y.od.a y.od.n y.od.c, .slice y.pl.a y.pl.n y.pl.c] 35)).heap.size ((w.alloc (.cells #[.bool x.at_, .int .i64 x.buf, .slice x.dm.a x.dm.n x.dm.c, .slice x.fr.a x.fr.n x.fr.c, .bool x.inp, .bool x.all, .slice x.rg.a x.rg.n x.rg.c, .bool x.ord, .slice x.od.a x.od.n x.od.c, .slice x.pl.a x.pl.n x.pl.c] 35)).alloc (.cells #[.bool y.at_, .int .i64 y.buf, .slice y.dm.a y.dm.n y.dm.c, .slice y.fr.a y.fr.n y.fr.c, .bool y.inp, .bool y.all, .slice y.rg.a y.rg.n y.rg.c, .bool y.ord, .slice y.od.a y.od.n y.od.c, .slice y.pl.a y.pl.n y.pl.c] 35)) u) : Bs u w.heap.size x ∧ Bs u (w.heap.size + 1) y ∧ Below w.heap.size w u := by
  obtain ⟨h1, h2⟩ := sbox1 y hb
  obtain ⟨h3, h4⟩ := sbox1 x h2
  rw [size_new] at h1
  exact ⟨h3, h1, h4⟩
theorem infoSt : (Tryd.prog.info? 35).map (·.size) = some 10 := by kernel_rfl

/-- Whether two states are the same. -/
def sm (a b : Sq) : Bool := a.at_ == b.at_ && (a.buf == b.buf && (a.inp == b.inp && (a.all == b.all && (a.ord == b.ord && (leqs a.dm b.dm && (leqs a.fr b.fr && (leqs a.rg b.rg && (leqs a.od b.od && leqs a.pl b.pl))))))))
theorem sm_same (a : Sq) : sm a a = true := by simp [sm, leqs_same]
theorem sm_eq (a b : Sq) : sm a b = (a.at_ == b.at_ && (a.buf == b.buf && (a.inp == b.inp && (a.all == b.all && (a.ord == b.ord && (leqs a.dm b.dm && (leqs a.fr b.fr && (leqs a.rg b.rg && (leqs a.od b.od && leqs a.pl b.pl))))))))) := rfl
theorem ise (n : Nat) (l : List (List Int)) (h : l.length = n) : l.isEmpty = ((n : Int) == 0) := by
  cases l with
  | nil => simp at h; subst h; rfl
  | cons x l =>
    simp only [List.length_cons] at h
    rw [← h, Bool.eq_iff_iff]
    simp
    omega

theorem few_eq {x : Sx} {w : World} (ok : x.Ok w) : few x.q = (decide ((x.dm.n : Int) ≤ 60) && (decide ((x.fr.n : Int) ≤ 60) && (decide ((x.rg.n : Int) ≤ 60) && (decide ((x.od.n : Int) ≤ 60) && decide ((x.pl.n : Int) ≤ 60))))) := by
  have hk : ∀ n : Nat, decide (n ≤ 60) = decide ((n : Int) ≤ 60) := fun n => decide_eq_decide.2 (by omega)
  simp only [few, Sx.q, ok.dm.len, ok.fr.len, ok.rg.len, ok.od.len, ok.pl.len, hk]
theorem few_len {x : Sx} {w : World} (ok : x.Ok w) (h : few x.q = true) : x.Len 60 := by
  rw [few_eq ok] at h
  simp only [Bool.and_eq_true, decide_eq_true_eq] at h
  unfold Sx.Len
  omega


theorem non_eq {x : Sx} {w : World} (ok : x.Ok w) : non x.q = (!x.at_ && (!x.inp && (!x.ord && (((x.dm.n : Int) == 0) && (((x.fr.n : Int) == 0) && ((x.pl.n : Int) == 0)))))) := by
  simp only [non, Sx.q, ise _ _ ok.dm.len, ise _ _ ok.fr.len, ise _ _ ok.pl.len]

set_option maxRecDepth 100000 in
set_option maxHeartbeats 1000000 in
theorem none_any (x : Sx) (w : World) (ok : x.Ok w) : Calls Tryd.prog 62 #[.agg #[.bool x.at_, .int .i64 x.buf, .slice x.dm.a x.dm.n x.dm.c, .slice x.fr.a x.fr.n x.fr.c, .bool x.inp, .bool x.all, .slice x.rg.a x.rg.n x.rg.c, .bool x.ord, .slice x.od.a x.od.n x.od.c, .slice x.pl.a x.pl.n x.pl.c]] w fun e w' => e = .returned (.bool (non x.q)) ∧ Below w.heap.size w w' := by
  have Ef := hid (non_eq ok)
  have s2 := ok.dm.small.1
  have s3 := ok.fr.small.1
  have s9 := ok.pl.small.1
  clear ok
  go_enter Tryd.func62, Tryd.ntmps62
  cases h0 : (x.at_)
  · cases h4 : (x.inp)
    · cases h7 : (x.ord)
      · cases h2 : ((x.dm.n : Int) == 0)
        · go_wp2
          go_ret
          exact ⟨ret_bool (by simp [Ef.out, h0, h4, h7, h2]), bel_new _ _⟩
        · cases h3 : ((x.fr.n : Int) == 0)
          · go_wp2
            go_ret
            exact ⟨ret_bool (by simp [Ef.out, h0, h4, h7, h2, h3]), bel_new _ _⟩
          · cases h9 : ((x.pl.n : Int) == 0)
            · go_wp2
              go_ret
              exact ⟨ret_bool (by simp [Ef.out, h0, h4, h7, h2, h3, h9]), bel_new _ _⟩
            · go_wp2
              go_ret
              exact ⟨ret_bool (by simp [Ef.out, h0, h4, h7, h2, h3, h9]), bel_new _ _⟩
      · go_wp2
        go_ret
        exact ⟨ret_bool (by simp [Ef.out, h0, h4, h7]), bel_new _ _⟩
    · go_wp2
      go_ret
      exact ⟨ret_bool (by simp [Ef.out, h0, h4]), bel_new _ _⟩
  · go_wp2
    go_ret
    exact ⟨ret_bool (by simp [Ef.out, h0]), bel_new _ _⟩

end Go.Proofs.YtdgknofpkafppaaDoor

/- Same. Written by state/mk_staf.py. -/
namespace Go.Proofs.YtdgknofpkafppaaDoor
open Go Go.RowKit

theorem bel2 (w : World) (o o' : Obj) : Below w.heap.size w ((w.alloc o).alloc o') := Below.on (bel_new _ _) (bel_new _ _)
theorem smx_eq (x y : Sx) : sm x.q y.q = (x.at_ == y.at_ && (x.buf == y.buf && (x.inp == y.inp && (x.all == y.all && (x.ord == y.ord && (leqs x.dm.l y.dm.l && (leqs x.fr.l y.fr.l && (leqs x.rg.l y.rg.l && (leqs x.od.l y.od.l && leqs x.pl.l y.pl.l))))))))) := sm_eq _ _

end Go.Proofs.YtdgknofpkafppaaDoor

/- Regions that draw their order and end with stores: a condition that is held up to ONE operation (the gate), which waits for all that read. No program. -/
namespace Go.Proofs.YtdgknofpkafppaaDoor
open Go

section
variable {P : Program} {ops : Array Oper} {Q : Exit → Act → World → Prop} {md : Region.Mode} {S : World → Prop}

/-- Whatever order is picked from here on; S holds behind every operation that is carried out as long as g has not come up. -/
def wpAnyG (P : Program) (md : Region.Mode) (ops : Array Oper) (Q : Exit → Act → World → Prop) (S : World → Prop) (g : Nat) : Nat → Array Bool → Act → World → Prop
  | 0, listed, a, w => Region.ready md ops listed = [] ∧ Q .normal a w
  | fuel + 1, listed, a, w =>
    (Region.ready md ops listed = [] → Q .normal a w) ∧
    ∀ i ∈ Region.ready md ops listed, wpOp P ops Q i (fun a' w' => ((listed.setIfInBounds i true).getD g true = false → S w') ∧ wpAnyG P md ops Q S g fuel (listed.setIfInBounds i true) a' w') a w

theorem wpAny_of_gate {g : Nat} : ∀ (fuel : Nat) (listed : Array Bool) (a : Act) (w : World), wpAnyG P md ops Q S g fuel listed a w → wpAny P md ops Q fuel listed a w
  | 0, _, _, _, h => h
  | fuel + 1, _, _, _, h => ⟨h.1, fun i hi => wpOp_mono (fun a' w' h' => wpAny_of_gate fuel _ a' w' h'.2) (h.2 i hi)⟩

/-- g waits for i, through others too. -/
def waits (md : Region.Mode) (ops : Array Oper) : Nat → Nat → Nat → Bool
  | 0, _, _ => false
  | k + 1, g, i => match ops[g]? with
    | some o => o.after.any fun e => Region.binds md e && ((e.on == i) || waits md ops k e.on i)
    | none => false
/-- What has come up waited for nothing that has not. -/
def closedB (md : Region.Mode) (ops : Array Oper) (listed : Array Bool) : Bool := (List.range ops.size).all fun j => !listed.getD j false || match ops[j]? with
  | some o => o.after.all fun e => !Region.binds md e || listed.getD e.on false
  | none => true
def Closed (md : Region.Mode) (ops : Array Oper) (listed : Array Bool) : Prop := ∀ (j : Nat) o, ops[j]? = some o → listed.getD j false = true → ∀ e ∈ o.after, Region.binds md e = true → listed.getD e.on false = true
theorem closed_of {listed : Array Bool} (h : closedB md ops listed = true) : Closed md ops listed := fun j o ho hl e he hb => by
  have hj : j < ops.size := (Array.getElem?_eq_some_iff.1 ho).1
  have h1 := List.all_eq_true.1 h j (List.mem_range.2 hj)
  rw [hl, ho] at h1
  simp only [Bool.not_true, Bool.false_or] at h1
  have h2 := Array.all_eq_true'.1 h1 e he
  rw [hb] at h2
  simpa using h2
theorem closed_set {listed : Array Bool} {j : Nat} (h : Closed md ops listed) (hj : j ∈ Region.ready md ops listed) : Closed md ops (listed.setIfInBounds j true) := fun k o ho hl e he hb => by
  obtain ⟨_, oj, hoj, hall⟩ := mem_ready.1 hj
  refine getD_set_true ?_
  by_cases hjk : j = k
  · subst hjk
    rw [hoj] at ho
    cases ho
    exact hall e he hb
  · rw [getD_set_ne false hjk] at hl
    exact h k o ho hl e he hb
theorem waits_deps {i : Nat} {listed : Array Bool} (hc : Closed md ops listed) (hi : listed.getD i false = false) : ∀ (k g : Nat), waits md ops k g i = true → ∀ o, ops[g]? = some o → ¬ ∀ e ∈ o.after, Region.binds md e = true → listed.getD e.on false = true
  | 0, _, hw, _, _ => by simp [waits] at hw
  | k + 1, g, hw, o, ho => fun hall => by
    rw [waits, ho] at hw
    obtain ⟨e, he, hb⟩ := Array.any_eq_true'.1 hw
    simp only [Bool.and_eq_true, Bool.or_eq_true, beq_iff_eq] at hb
    have h1 := hall e he hb.1
    rcases hb.2 with h2 | h2
    · rw [h2, hi] at h1
      cases h1
    · cases hoe : ops[e.on]? with
      | none =>
        cases k with
        | zero => simp [waits] at h2
        | succ k => rw [waits, hoe] at h2; cases h2
      | some o' => exact waits_deps hc hi k e.on h2 o' hoe (fun e' he' hb' => hc e.on o' hoe h1 e' he' hb')
theorem waits_not {k g i : Nat} {listed : Array Bool} (hc : Closed md ops listed) (hw : waits md ops k g i = true) (hr : i ∈ Region.ready md ops listed) : g ∉ Region.ready md ops listed := fun hg => by
  obtain ⟨h0, oi, hoi, _⟩ := mem_ready.1 hr
  obtain ⟨_, o, ho, hall⟩ := mem_ready.1 hg
  have hi : listed.getD i false = false := by
    rcases Nat.lt_or_ge i listed.size with h' | h'
    · simp [h'] at h0 ⊢
      exact h0
    · simp [Array.getElem?_eq_none h']
  exact waits_deps hc hi k g hw o ho hall

theorem wpAnyG_first {n i g : Nat} {oi : Oper} {v : Value} (hi : ops[i]? = some oi) (hgi : waits md ops n g i = true) (hsel : ∀ (j : Nat) (o : Oper) cs b, ops[j]? = some o → o.op ≠ .select cs b)
    (hQ : ∀ c a w, Q (.panic c) (a.put oi.dst v) w → Q (.panic c) a w) :
    ∀ (fuel : Nat) (listed : Array Bool) (a : Act) (w : World),
      (∀ j oj, ops[j]? = some oj → j ≠ i → listed.getD j true = false → (∀ e ∈ oj.after, Region.binds md e = true → e.on ≠ i) → oi.apart ops oj = true) →
      i ∈ Region.ready md ops listed → listed.getD g true = false → Closed md ops listed → YieldsIf P ops S oi v a → S w →
      wpAnyG P md ops Q S g fuel (listed.setIfInBounds i true) (a.put oi.dst v) w → wpAnyG P md ops Q S g (fuel + 1) listed a w := by
  intro fuel
  induction fuel with
  | zero =>
    intro listed a w _ hr _ _ hy hS H
    refine ⟨fun h => (by rw [h] at hr; cases hr), fun j hj => ?_⟩
    by_cases hji : j = i
    · subst hji; exact hy.wpOp hi hS ⟨fun _ => hS, H⟩
    · have := ready_mono hj hji
      rw [H.1] at this
      cases this
  | succ fuel ih =>
    intro listed a w hfree hr hlg hcl hy hS H
    refine ⟨fun h => (by rw [h] at hr; cases hr), fun j hj => ?_⟩
    by_cases hji : j = i
    · subst hji; exact hy.wpOp hi hS ⟨fun _ => hS, H⟩
    · have h1 := H.2 j (ready_mono hj hji)
      have hjg : j ≠ g := fun e => waits_not hcl hgi hr (by rw [← e]; exact hj)
      have hig : i ≠ g := fun e => waits_not hcl hgi hr (by rw [← e]; exact hr)
      have hl1 : ((listed.setIfInBounds i true).setIfInBounds j true).getD g true = false := by rw [getD_set_ne true hjg, getD_set_ne true hig]; exact hlg
      have hl2 : (listed.setIfInBounds j true).getD g true = false := by rw [getD_set_ne true hjg]; exact hlg
      obtain ⟨hjun, oj, hoj, hall⟩ := mem_ready.1 hj
      have hnot : ∀ e ∈ oj.after, Region.binds md e = true → e.on ≠ i := fun e he hb heq => by
        have h1 := hall e he hb
        have h0 := (mem_ready.1 hr).1
        rw [heq] at h1
        rcases Nat.lt_or_ge i listed.size with h' | h'
        · simp [h'] at h0 h1; rw [h0] at h1; cases h1
        · simp [Array.getElem?_eq_none h'] at h1
      have h2 := wpOp_putIf hoj (hfree j oj hoj hji hjun hnot) (fun cs b => hsel i oi cs b hi) (fun cs b => hsel j oj cs b hoj) hQ hy h1
      have hfree' : ∀ k ok, ops[k]? = some ok → k ≠ i → (listed.setIfInBounds j true).getD k true = false →
          (∀ e ∈ ok.after, Region.binds md e = true → e.on ≠ i) → oi.apart ops ok = true := fun k ok hk hki hun hno => by
        refine hfree k ok hk hki ?_ hno
        by_cases hjk : j = k
        · subst hjk; exact hjun
        · rw [getD_set_ne true hjk] at hun; exact hun
      refine wpOp_mono (fun a' w' h3 => ⟨fun _ => h3.2.1 hl1, ih (listed.setIfInBounds j true) a' w' hfree' (ready_mono hr (Ne.symm hji)) hl2 (closed_set hcl hj) h3.1 (h3.2.1 hl1) ?_⟩) h2
      rw [Array.setIfInBounds_comm _ _ hji]
      exact h3.2.2

/-- Take number i first: the gate waits for it. -/
theorem wpAnyG_take {i g : Nat} {oi : Oper} {v : Value} {fuel : Nat} {listed : Array Bool} {a : Act} {w : World} (hi : ops[i]? = some oi)
    (hs : Region.noSelect ops = true) (hf : Region.free md ops listed i = true) (hr : (Region.ready md ops listed).contains i = true) (hg : (waits md ops 6 g i && !listed.getD g true && closedB md ops listed) = true)
    (hQ : ∀ c a w, Q (.panic c) (a.put oi.dst v) w → Q (.panic c) a w) (hy : YieldsIf P ops S oi v a) (hS : S w)
    (h : wpAnyG P md ops Q S g fuel (listed.setIfInBounds i true) (a.put oi.dst v) w) : wpAnyG P md ops Q S g (fuel + 1) listed a w := by
  simp only [Bool.and_eq_true, Bool.not_eq_true'] at hg
  exact wpAnyG_first hi hg.1.1 (Region.noSelect_spec hs) hQ fuel listed a w (Region.free_spec hi hf) (by simpa using hr) hg.1.2 (closed_of hg.2) hy hS h

/-- Take number i first, though the gate does not wait for it: it yields in whatever world. -/
theorem wpAnyG_firstFree {i g : Nat} {oi : Oper} {v : Value} (hi : ops[i]? = some oi) (hig : i ≠ g) (hsel : ∀ (j : Nat) (o : Oper) cs b, ops[j]? = some o → o.op ≠ .select cs b)
    (hQ : ∀ c a w, Q (.panic c) (a.put oi.dst v) w → Q (.panic c) a w) :
    ∀ (fuel : Nat) (listed : Array Bool) (a : Act) (w : World),
      (∀ j oj, ops[j]? = some oj → j ≠ i → listed.getD j true = false → (∀ e ∈ oj.after, Region.binds md e = true → e.on ≠ i) → oi.apart ops oj = true) →
      i ∈ Region.ready md ops listed → YieldsIf P ops (fun _ => True) oi v a → (listed.getD g true = false → S w) →
      wpAnyG P md ops Q S g fuel (listed.setIfInBounds i true) (a.put oi.dst v) w → wpAnyG P md ops Q S g (fuel + 1) listed a w := by
  intro fuel
  induction fuel with
  | zero =>
    intro listed a w _ hr hy hS H
    refine ⟨fun h => (by rw [h] at hr; cases hr), fun j hj => ?_⟩
    by_cases hji : j = i
    · subst hji
      exact hy.wpOp hi trivial ⟨fun hl => hS (by rw [getD_set_ne true hig] at hl; exact hl), H⟩
    · have := ready_mono hj hji
      rw [H.1] at this
      cases this
  | succ fuel ih =>
    intro listed a w hfree hr hy hS H
    refine ⟨fun h => (by rw [h] at hr; cases hr), fun j hj => ?_⟩
    by_cases hji : j = i
    · subst hji
      exact hy.wpOp hi trivial ⟨fun hl => hS (by rw [getD_set_ne true hig] at hl; exact hl), H⟩
    · have h1 := H.2 j (ready_mono hj hji)
      obtain ⟨hjun, oj, hoj, hall⟩ := mem_ready.1 hj
      have hnot : ∀ e ∈ oj.after, Region.binds md e = true → e.on ≠ i := fun e he hb heq => by
        have h1 := hall e he hb
        have h0 := (mem_ready.1 hr).1
        rw [heq] at h1
        rcases Nat.lt_or_ge i listed.size with h' | h'
        · simp [h'] at h0 h1; rw [h0] at h1; cases h1
        · simp [Array.getElem?_eq_none h'] at h1
      have h2 := wpOp_putIf hoj (hfree j oj hoj hji hjun hnot) (fun cs b => hsel i oi cs b hi) (fun cs b => hsel j oj cs b hoj) hQ hy h1
      have hfree' : ∀ k ok, ops[k]? = some ok → k ≠ i → (listed.setIfInBounds j true).getD k true = false →
          (∀ e ∈ ok.after, Region.binds md e = true → e.on ≠ i) → oi.apart ops ok = true := fun k ok hk hki hun hno => by
        refine hfree k ok hk hki ?_ hno
        by_cases hjk : j = k
        · subst hjk; exact hjun
        · rw [getD_set_ne true hjk] at hun; exact hun
      have hl1 : (listed.setIfInBounds j true).getD g true = false → ((listed.setIfInBounds i true).setIfInBounds j true).getD g true = false := fun hl => by
        rw [Array.setIfInBounds_comm _ _ (Ne.symm hji), getD_set_ne true hig]
        exact hl
      refine wpOp_mono (fun a' w' h3 => ⟨fun hl => h3.2.1 (hl1 hl), ih (listed.setIfInBounds j true) a' w' hfree' (ready_mono hr (Ne.symm hji)) h3.1 (fun hl => h3.2.1 (hl1 hl)) ?_⟩) h2
      rw [Array.setIfInBounds_comm _ _ hji]
      exact h3.2.2
theorem wpAnyG_takeFree {i g : Nat} {oi : Oper} {v : Value} {fuel : Nat} {listed : Array Bool} {a : Act} {w : World} (hi : ops[i]? = some oi)
    (hs : Region.noSelect ops = true) (hf : Region.free md ops listed i = true) (hr : (Region.ready md ops listed).contains i = true) (hg : (!(i == g)) = true)
    (hQ : ∀ c a w, Q (.panic c) (a.put oi.dst v) w → Q (.panic c) a w) (hy : YieldsIf P ops (fun _ => True) oi v a) (hS : S w)
    (h : wpAnyG P md ops Q S g fuel (listed.setIfInBounds i true) (a.put oi.dst v) w) : wpAnyG P md ops Q S g (fuel + 1) listed a w :=
  wpAnyG_firstFree hi (by simpa using hg) (Region.noSelect_spec hs) hQ fuel listed a w (Region.free_spec hi hf) (by simpa using hr) hy (fun _ => hS) h

/-- Each of the operations rs comes up next; behind it S holds. -/
def AllReadyG (P : Program) (md : Region.Mode) (ops : Array Oper) (Q : Exit → Act → World → Prop) (S : World → Prop) (g fuel : Nat) (listed : Array Bool) (a : Act) (w : World) (rs : List Nat) : Prop :=
  ∀ i ∈ rs, wpOp P ops Q i (fun a' w' => S w' ∧ wpAnyG P md ops Q S g fuel (listed.setIfInBounds i true) a' w') a w
theorem AllReadyG.nil {g fuel : Nat} {listed : Array Bool} {a : Act} {w : World} : AllReadyG P md ops Q S g fuel listed a w [] := fun _ h => by cases h
theorem AllReadyG.cons {g fuel : Nat} {listed : Array Bool} {a : Act} {w : World} {i : Nat} {o : Oper} {rs : List Nat} (ho : ops[i]? = some o)
    (h : ∀ K' : Act → World → Prop, Shut (∀ a w, S w → (S w → wpAnyG P md ops Q S g fuel (listed.setIfInBounds i true) a w) → K' a w) → if Region.wanted o (yielded ops a.tmps) = true then Oper.wp P o a w K' Q else K' (a.put o.dst undef) w)
    (hs : AllReadyG P md ops Q S g fuel listed a w rs) : AllReadyG P md ops Q S g fuel listed a w (i :: rs) := fun j hj => by
  rcases List.mem_cons.1 hj with rfl | hj
  · exact wpOp_step ho (fun K' hK => h K' (fun a w hS hW => hK a w ⟨hS, hW hS⟩))
  · exact hs j hj
theorem wpAnyG_ready {g : Nat} {rs : List Nat} {fuel : Nat} {listed : Array Bool} {a : Act} {w : World} (hr : Region.ready md ops listed = rs) (hne : rs ≠ [])
    (h : AllReadyG P md ops Q S g fuel listed a w rs) : wpAnyG P md ops Q S g (fuel + 1) listed a w :=
  ⟨fun h0 => absurd (hr ▸ h0) hne, fun i hi => wpOp_mono (fun _ _ h' => ⟨fun _ => h'.1, h'.2⟩) (h i (hr ▸ hi))⟩

/-- Behind the gate nothing is held any more. -/
theorem wpAnyG_of_free {g : Nat} : ∀ {fuel : Nat} {listed : Array Bool} {a : Act} {w : World}, listed.getD g true = true → wpAnyH P md ops Q (fun _ => True) fuel listed a w → wpAnyG P md ops Q S g fuel listed a w
  | 0, _, _, _, _, h => h
  | fuel + 1, listed, _, _, hl, h => ⟨h.1, fun i hi => wpOp_mono (fun a' w' h' => by
      have hl' : (listed.setIfInBounds i true).getD g true = true := by
        by_cases hig : i = g
        · subst hig
          rcases Nat.lt_or_ge i listed.size with h' | h' <;> simp [h']
        · rw [getD_set_ne true hig]; exact hl
      exact ⟨fun h0 => (by rw [hl'] at h0; cases h0), wpAnyG_of_free hl' h'.2⟩) (h.2 i hi)⟩
/-- The gate itself, alone ready, and yielding in whatever world. -/
theorem wpAnyG_gate {g : Nat} {og : Oper} {v : Value} {fuel : Nat} {listed : Array Bool} {a : Act} {w : World} (hi : ops[g]? = some og) (hr : Region.ready md ops listed = [g]) (hy : YieldsIf P ops (fun _ => True) og v a)
    (h : wpAnyH P md ops Q (fun _ => True) fuel (listed.setIfInBounds g true) (a.put og.dst v) w) : wpAnyG P md ops Q S g (fuel + 1) listed a w := by
  have hl : (listed.setIfInBounds g true).getD g true = true := by rcases Nat.lt_or_ge g listed.size with h' | h' <;> simp [h']
  refine ⟨fun h0 => (by rw [hr] at h0; cases h0), fun i hi' => ?_⟩
  rw [hr] at hi'
  simp only [List.mem_cons, List.not_mem_nil, or_false] at hi'
  subst hi'
  exact hy.wpOp hi trivial ⟨fun h0 => (by rw [hl] at h0; cases h0), wpAnyG_of_free hl h⟩
/-- The gate itself, alone ready: a store, or whatever. -/
theorem wpAnyG_gateOp {g : Nat} {og : Oper} {fuel : Nat} {listed : Array Bool} {a : Act} {w : World} (ho : ops[g]? = some og) (hr : Region.ready md ops listed = [g])
    (h : ∀ K' : Act → World → Prop, Shut (∀ a w, True → (True → wpAnyH P md ops Q (fun _ => True) fuel (listed.setIfInBounds g true) a w) → K' a w) → if Region.wanted og (yielded ops a.tmps) = true then Oper.wp P og a w K' Q else K' (a.put og.dst undef) w) :
    wpAnyG P md ops Q S g (fuel + 1) listed a w := by
  have hl : (listed.setIfInBounds g true).getD g true = true := by rcases Nat.lt_or_ge g listed.size with h' | h' <;> simp [h']
  refine ⟨fun h0 => (by rw [hr] at h0; cases h0), fun i hi' => ?_⟩
  rw [hr] at hi'
  simp only [List.mem_cons, List.not_mem_nil, or_false] at hi'
  subst hi'
  exact wpOp_step ho (fun K' hK => h K' (fun a w _ hW => hK a w ⟨fun h0 => (by rw [hl] at h0; cases h0), wpAnyG_of_free hl (hW trivial)⟩))
theorem wp_region_gate_drew {id g : Nat} {a : Act} {w : World} (hm : P.follows .mixedOrders = true) (hS : S w.drew)
    (h : S w.drew → wpAnyG P .any ops Q S g ops.size (Array.replicate ops.size false) a w.drew) : (Code.region id ops true).wp P Q a w :=
  wp_region_any hm (wpAny_of_gate _ _ _ _ (h hS))
theorem wpAnyG_mono {g : Nat} {S' : World → Prop} (h : ∀ x, S' x → S x) : ∀ {fuel : Nat} {listed : Array Bool} {a : Act} {w : World}, wpAnyG P md ops Q S' g fuel listed a w → wpAnyG P md ops Q S g fuel listed a w
  | 0, _, _, _, hh => hh
  | _ + 1, _, _, _, hh => ⟨hh.1, fun i hi => wpOp_mono (fun _ _ q => ⟨fun h0 => h _ (q.1 h0), wpAnyG_mono h q.2⟩) (hh.2 i hi)⟩
end

/-- A region by a name for its operations. -/
theorem swap_ops {P : Program} {id : Nat} {ops ops' : Array Oper} {b : Bool} {Q : Exit → Act → World → Prop} {a : Act} {w : World} (h : ops = ops') (hw : (Code.region id ops' b).wp P Q a w) : (Code.region id ops b).wp P Q a w := by
  rw [h]
  exact hw

section
variable {P : Program} {ops : Array Oper} {Q : Exit → Act → World → Prop} {S : World → Prop}
/-- A region in the order of its text, by the operations' numbers. -/
theorem wp_region_seq {id : Nat} {l : List Nat} {a : Act} {w : World} (hl : List.range ops.size = l) (h : wpOps P ops Q l a w) : (Code.region id ops false).wp P Q a w := wp_region (by rw [hl]; exact h)
theorem wpOps_val {i : Nat} {oi : Oper} {v : Value} {rest : List Nat} {a : Act} {w : World} (hi : ops[i]? = some oi) (hy : YieldsIf P ops S oi v a) (hS : S w) (h : wpOps P ops Q rest (a.put oi.dst v) w) : wpOps P ops Q (i :: rest) a w := by
  rw [wpOps_cons]
  exact hy.wpOp hi hS h
theorem wpOps_end {a : Act} {w : World} (h : Q .normal a w) : wpOps P ops Q [] a w := h
end

/-- An append onto a row of the call's own, inside a drawing region. -/
theorem step_appG {P : Program} {ops : Array Oper} {o : Oper} {a : Act} {w : World} {K : Act → World → Prop} {Q : Exit → Act → World → Prop} {E : Prop}
    (hwt : Region.wanted o (yielded ops a.tmps) = true) (s x : Operand) (t tx : TypeId) (hop : o.op = .call { callee := .builtin .append, args := #[s, x], argTypes := #[t, tx] })
    (base : Nat) (e : TypeId) (i : TypeInfo) (z : Value) (size bytes : Nat) (ht : P.underlying t = some (.slice e)) (hi : P.info? e = some i) (hz : i.zero = some z)
    (hsize : i.size = size) (hby : i.bytes = bytes) (hzs : z.cells.size = size)
    (v : Value) (n : Nat) (xs : List Value) (hs : a.eval s = v) (hown : w.ownsRow base e size v n xs)
    (xv : Value) (m : Nat) (news : List Value) (hx : a.eval x = xv) (hsrc : Src P size tx xv m news w)
    (h63 : n + m ≤ maxLen) (hbytes : ∀ old, old < n + m → Builtin.nextslicecap (n + m) old * bytes ≤ 281474976710656) (hbase : base ≤ w.heap.size)
    (h : ∀ v' w', w'.ownsRow base e size v' (n + m) (xs ++ news) → w.grownBy w' v.ownBlock → K (a.put o.dst v') w') :
    if Region.wanted o (yielded ops a.tmps) = true then Oper.wp P o a w K Q else E := by
  rw [if_pos hwt]
  obtain ⟨v', w', hr, h2, h3⟩ := run_append_own_src (P := P) w base t tx o.type e i z size bytes ht hi hz hsize hby hzs v n xs hown xv m news hsrc h63 hbytes hbase
  unfold Oper.wp
  simp [execOp, hop, resolve, invoke, builtin, hs, hx, hr, Result.andThen]
  exact h v' w' h2 h3
end Go.Proofs.YtdgknofpkafppaaDoor
