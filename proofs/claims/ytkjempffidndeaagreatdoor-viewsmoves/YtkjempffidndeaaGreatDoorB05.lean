/- Lemmas that the proof leans on. -/
import Derived.Test.YtkjempffidndeaaGreatDoorB04
namespace Go.Proofs.YtkjempffidndeaaGreatDoor
open Go Go.RowKit
section
def Edg (y : List Int) : Prop := ∃ a b c, y = [a, b, c] ∧ -16777216 ≤ b ∧ b ≤ 16777216 ∧ -16777216 ≤ c ∧ c ≤ 16777216
theorem edg_le (v : Int) : -16777216 ≤ edg v ∧ edg v ≤ 16777216 := by unfold edg; omega
structure Zs (m : Nat) (s : Sf) : Prop where
 dm : s.pe.dm.length + s.ca.dm.length + s.no.dm.length ≤ m
 fr : s.pe.fr.length + s.ca.fr.length + s.no.fr.length ≤ m
 pl : s.pe.pl.length + s.ca.pl.length + s.no.pl.length ≤ m
 od : s.pe.od.length ≤ m + 1 ∧ s.ca.od.length ≤ m + 1 ∧ s.no.od.length ≤ m + 1
 rg : s.pe.rg.length ≤ 20 ∧ s.ca.rg.length ≤ 20 ∧ s.no.rg.length ≤ 20
 ed : (∀ y ∈ s.pe.pl, Edg y) ∧ (∀ y ∈ s.ca.pl, Edg y) ∧ ∀ y ∈ s.no.pl, Edg y
theorem Zs.mono {m n : Nat} {s : Sf} (h : Zs m s) (hm : m ≤ n) : Zs n s := by
 obtain ⟨h1, h2, h3, h4, h5, h6⟩ := h
 exact ⟨by omega, by omega, by omega, by omega, h5, h6⟩
def Szf (m : Nat) (F : Fo) : Prop := ∀ x s, gt F x = some s → Zs m s
theorem Szf.mono {m n : Nat} {F : Fo} (h : Szf m F) (hm : m ≤ n) : Szf n F := fun x s hs => (h x s hs).mono hm
theorem Szf.turn {m n : Nat} {F : Fo} (h : Szf m F) (hm : m ≤ n) (id : Int) (f : Sf → Sf) (hf : ∀ s, Zs m s → Zs n (f s)) : Szf n (upd F id f) := fun x s hs => by
 rw [gt_upd] at hs
 split at hs
 ·obtain ⟨t, ht, rfl⟩ := Option.map_eq_some_iff.1 hs
  exact hf t (h _ t ht)
 ·exact (h x s hs).mono hm
theorem szf_nil : Szf 0 [] := fun _ _ h => by cases h
theorem zs_sf0 (m : Nat) : Zs m sf0 := ⟨by simp [sf0, sq0, sqA], by simp [sf0, sq0, sqA], by simp [sf0, sq0, sqA], by simp [sf0, sq0, sqA], by simp [sf0, sq0, sqA], by simp [sf0, sq0, sqA]⟩
theorem outL_length (id : Int) (l : List (List Int)) : (outL id l).length ≤ l.length := List.length_filter_le _ _
theorem mem_puts {l m : List (List Int)} : ∀ {y : List Int}, y ∈ puts l m → y ∈ l ∨ y ∈ m := by
 induction m generalizing l with
 | nil => exact fun h => .inl h
 | cons c m ih =>
  intro y h
  rw [puts_cons] at h
  rcases ih h with h | h
  ·rcases mem_put1 h with h | h
   ·exact .inr (by simp [h])
   ·exact .inl h
  ·exact .inr (by simp [h])
theorem Zs.att {m : Nat} {s : Sf} (h : Zs m s) (b : Int) : Zs (m + 1) (attS b s) := by
 obtain ⟨h1, h2, h3, h4, h5, h6⟩ := h.mono (Nat.le_succ m)
 exact ⟨h1, h2, h3, h4, h5, h6⟩
theorem Zs.dmg {m : Nat} {s : Sf} (h : Zs m s) (r : List Int) : Zs (m + 1) (dmgS r s) := by
 obtain ⟨h1, h2, h3, h4, h5, h6⟩ := h
 exact ⟨by simp only [dmgS, List.length_append, List.length_singleton]; omega, by simp only [dmgS]; omega, by simp only [dmgS]; omega, by simp only [dmgS]; omega, h5, h6⟩
theorem Zs.frm {m : Nat} {s : Sf} (h : Zs m s) (c : Int) : Zs (m + 1) (frmS c s) := by
 obtain ⟨h1, h2, h3, h4, h5, h6⟩ := h
 exact ⟨by simp only [frmS]; omega, by simp only [frmS, List.length_append, List.length_singleton]; omega, by simp only [frmS]; omega, by simp only [frmS]; omega, h5, h6⟩
theorem Zs.inp {m : Nat} {s : Sf} (h : Zs m s) (a : Bool) (l : List (List Int)) (hl : l.length ≤ 20) : Zs (m + 1) (inpS a l s) := by
 obtain ⟨h1, h2, h3, h4, h5, h6⟩ := h.mono (Nat.le_succ m)
 refine ⟨h1, h2, h3, h4, ⟨?_, h5.2.1, h5.2.2⟩, h6⟩
 show (bif a then [] else l).length ≤ 20
 cases a
 ·exact hl
 ·exact Nat.zero_le _
theorem Zs.plc {m : Nat} {s : Sf} (h : Zs m s) (c : List Int) (hc : Edg c) : Zs (m + 1) (plcS c s) := by
 obtain ⟨h1, h2, h3, h4, h5, h6⟩ := h
 have hl := (put1_length (l := s.pe.pl) (c := c)).2
 refine ⟨by simp only [plcS]; omega, by simp only [plcS]; omega, by simp only [plcS]; omega, by simp only [plcS]; omega, h5, fun y hy => ?_, h6.2.1, h6.2.2⟩
 rcases mem_put1 hy with rfl | hy
 ·exact hc
 ·exact h6.1 y hy
theorem Zs.tak {m : Nat} {s : Sf} (h : Zs m s) : Zs (m + 1) (takS s) := by
 obtain ⟨h1, h2, h3, h4, h5, h6⟩ := h
 exact ⟨by simp only [takS]; omega, by simp only [takS, List.length_nil]; omega, by simp only [takS]; omega, by simp only [takS]; omega, h5, h6⟩
theorem Zs.ord {m : Nat} {s : Sf} (h : Zs m s) (l : List Int) (hl : l.length ≤ m + 2) : Zs (m + 1) (ordS (sg l) s) := by
 obtain ⟨h1, h2, h3, h4, h5, h6⟩ := h
 exact ⟨by simp only [ordS]; omega, by simp only [ordS]; omega, by simp only [ordS]; omega, by simp only [ordS, sg_length]; omega, h5, h6⟩
theorem Zs.out {m : Nat} {s : Sf} (h : Zs m s) (id : Int) : Zs m (outS id s) := by
 obtain ⟨h1, h2, h3, h4, h5, h6⟩ := h
 have a1 := outL_length id s.pe.od
 have a2 := outL_length id s.ca.od
 have a3 := outL_length id s.no.od
 have b1 := outL_length id s.pe.pl
 have b2 := outL_length id s.ca.pl
 have b3 := outL_length id s.no.pl
 exact ⟨h1, h2, by simp only [outS, outQ]; omega, by simp only [outS, outQ]; omega, h5, fun y hy => h6.1 y (List.mem_filter.1 hy).1, fun y hy => h6.2.1 y (List.mem_filter.1 hy).1, fun y hy => h6.2.2 y (List.mem_filter.1 hy).1⟩
theorem Zs.par {m : Nat} {s : Sf} (h : Zs m s) (p : Int) (b : Bool) : Zs m { s with par := p, syn := b } := ⟨h.dm, h.fr, h.pl, h.od, h.rg, h.ed⟩
theorem lat_length {m : Nat} {s : Sf} (h : Zs m s) : (lat s).length ≤ m + 1 := by
 obtain ⟨h1, h2, h3⟩ := h.od
 unfold lat
 cases s.pe.ord
 ·cases s.ca.ord
  ·exact h3
  ·exact h2
 ·exact h1
theorem mrg_rg {a b : Sq} (ha : a.rg.length ≤ 20) (hb : b.rg.length ≤ 20) : (mrg a b).rg.length ≤ 20 := by
 simp only [mrg]
 cases b.inp
 ·exact ha
 ·exact hb
theorem mrg_odl {a b : Sq} {m : Nat} (ha : a.od.length ≤ m) (hb : b.od.length ≤ m) : (mrg a b).od.length ≤ m := by
 simp only [mrg]
 cases b.ord
 ·exact ha
 ·exact hb
theorem mrg_edg {a b : Sq} (ha : ∀ y ∈ a.pl, Edg y) (hb : ∀ y ∈ b.pl, Edg y) : ∀ y ∈ (mrg a b).pl, Edg y := fun y hy => by
 rcases mem_puts hy with hy | hy
 ·exact ha y hy
 ·exact hb y hy
theorem Zs.apls {m : Nat} {s : Sf} (h : Zs m s) : Zs m (aplS s) := by
 obtain ⟨h1, h2, h3, h4, h5, h6⟩ := h
 have hp := puts_length s.no.pl s.ca.pl
 refine ⟨by simp only [aplS, apl, sq0, List.length_nil]; omega, by simp only [aplS, apl, mrg, sq0, List.length_nil, List.length_append]; omega, by simp only [aplS, apl, mrg, sq0, List.length_nil]; omega, ⟨h4.1, by simp [aplS, sq0], mrg_odl (a := s.no) (b := s.ca) h4.2.2 h4.2.1⟩, ⟨h5.1, by simp [aplS, sq0], mrg_rg (a := s.no) (b := s.ca) h5.2.2 h5.2.1⟩, h6.1, by simp [aplS, sq0], mrg_edg (a := s.no) (b := s.ca) h6.2.2 h6.2.1⟩
theorem Zs.cacs {m : Nat} {s : Sf} (h : Zs m s) : Zs m (cacS s) := by
 obtain ⟨h1, h2, h3, h4, h5, h6⟩ := h
 have hp := puts_length s.ca.pl s.pe.pl
 refine ⟨by simp only [cacS, mrg, sq0, List.length_nil, List.length_append]; omega, by simp only [cacS, mrg, sq0, List.length_nil, List.length_append]; omega, by simp only [cacS, mrg, sq0, List.length_nil]; omega, ⟨by simp [cacS, sq0], mrg_odl (a := s.ca) (b := s.pe) h4.2.1 h4.1, h4.2.2⟩, ⟨by simp [cacS, sq0], mrg_rg (a := s.ca) (b := s.pe) h5.2.1 h5.1, h5.2.2⟩, by simp [cacS, sq0], mrg_edg (a := s.ca) (b := s.pe) h6.2.1 h6.1, h6.2.2⟩
theorem coms_eq (s : Sf) : comS s = aplS (cacS s) := rfl
theorem Zs.coms {m : Nat} {s : Sf} (h : Zs m s) : Zs m (comS s) := by
 rw [coms_eq]
 exact h.cacs.apls
theorem Szf.add {m : Nat} {F : Fo} (h : Szf m F) (id : Int) : Szf (m + 1) (addF F id) := by
 unfold addF
 split
 ·intro x s hs
  rw [gt_app] at hs
  split at hs
  ·exact (h x s hs).mono (Nat.le_succ m)
  ·split at hs
   ·cases hs
    exact zs_sf0 _
   ·cases hs
 ·exact h.mono (Nat.le_succ m)
theorem Szf.uns {m : Nat} {F : Fo} (h : Szf m F) (id : Int) : Szf m (unsF F id) := by
 unfold unsF
 split
 ·exact h
 ·split
  ·exact h
  ·exact (h.turn (Nat.le_refl m) _ _ fun s hs => hs.out id).turn (Nat.le_refl m) _ _ fun s hs => hs.par 0 s.syn
theorem Szf.drp {m : Nat} {F : Fo} (h : Szf m F) (id : Int) : Szf m (drpF F id) := by
 cases hs : gt F id with
 | none =>
  unfold drpF
  rw [hs]
  exact h
 | some s =>
  intro x t ht
  rw [drpF_gt hs] at ht
  split at ht
  ·cases ht
  ·obtain ⟨u, hu, rfl⟩ := Option.map_eq_some_iff.1 ht
   have := h.uns id x u hu
   unfold selfS
   split
   ·exact this.par 0 u.syn
   ·exact this
theorem Zs.subP {m : Nat} {s : Sf} (h : Zs m s) (id : Int) : Zs (m + 1) (subP id s) := by
 have hl := lat_length h
 have hd := dr_length id (un1 (lat s))
 rw [un1_length] at hd
 obtain ⟨h1, h2, h3, h4, h5, h6⟩ := h
 have hp := (put1_length (l := s.pe.pl) (c := [id, 0, 0])).2
 refine ⟨by simp only [Go.Proofs.YtkjempffidndeaaGreatDoor.subP, plcS, ordS]; omega, by simp only [Go.Proofs.YtkjempffidndeaaGreatDoor.subP, plcS, ordS]; omega, by simp only [Go.Proofs.YtkjempffidndeaaGreatDoor.subP, plcS, ordS]; omega, ?_, h5, fun y hy => ?_, h6.2.1, h6.2.2⟩
 ·simp only [Go.Proofs.YtkjempffidndeaaGreatDoor.subP, plcS, ordS, sg_length, List.length_append, List.length_singleton]
  omega
 ·rcases mem_put1 hy with rfl | hy
  ·exact ⟨id, 0, 0, rfl, by decide, by decide, by decide, by decide⟩
  ·exact h6.1 y hy
theorem Szf.sub {m : Nat} {F : Fo} (h : Szf m F) (id p : Int) : Szf (m + 1) (subF F id p) := by
 unfold subF
 split
 ·exact (h.turn (Nat.le_refl m) _ _ fun s hs => hs.par p true).turn (Nat.le_succ m) _ _ fun s hs => hs.subP id
 ·exact h.mono (Nat.le_succ m)
theorem Szf.posn {m : Nat} {F : Fo} (h : Szf m F) (id x y : Int) : Szf (m + 1) (posF F id x y) := by
 unfold posF
 split
 ·exact h.mono (Nat.le_succ m)
 ·split
  ·exact h.mono (Nat.le_succ m)
  ·exact h.turn (Nat.le_succ m) _ _ fun s hs => hs.plc _ ⟨id, edg x, edg y, rfl, (edg_le x).1, (edg_le x).2, (edg_le y).1, (edg_le y).2⟩
theorem bes_len {l m : List Int} {id by_ : Int} {b : Nat} (h : bes l id by_ b = some m) : m.length ≤ l.length + 1 := by
 unfold bes at h
 split at h
 ·cases h
 ·obtain ⟨i, _, rfl⟩ := Option.map_eq_some_iff.1 h
  rw [ins_length]
  have := dr_length id l
  omega
theorem putL_length {F : Fo} {m : Nat} (h : Szf m F) {id by_ : Int} {b : Nat} {p : Int} {l : List Int} (hp : putL F id by_ b = some (p, l)) : l.length ≤ m + 2 := by
 unfold putL at hp
 split at hp
 ·cases hp
 ·split at hp
  ·cases hp
  ·split at hp
   ·cases hp
   ·rename_i q hq
    have hl := lat_length (h _ _ hq)
    split at hp
    ·obtain ⟨m', hm, e⟩ := Option.map_eq_some_iff.1 hp
     cases e
     have := bes_len hm
     rw [un1_length] at this
     omega
    ·split at hp
     ·cases hp
     ·obtain ⟨m', hm, e⟩ := Option.map_eq_some_iff.1 hp
      cases e
      have := bes_len hm
      rw [un1_length] at this
      omega
theorem Szf.put {m : Nat} {F : Fo} (h : Szf m F) (id by_ : Int) (b : Nat) : Szf (m + 1) (putF F id by_ b) := by
 unfold putF
 split
 ·exact h.mono (Nat.le_succ m)
 ·rename_i p l hp
  exact h.turn (Nat.le_succ m) _ _ fun s hs => hs.ord l (putL_length h hp)
theorem Szf.syn {m : Nat} {F : Fo} (h : Szf m F) (id : Int) (on : Bool) : Szf m (synF F id on) := by
 unfold synF
 split
 ·exact h
 ·rename_i s hs
  split
  ·exact h
  ·intro x t ht
   rw [gt_st] at ht
   split at ht
   ·rw [hs] at ht
    cases ht
    exact (h _ _ hs).par s.par on
   ·exact h x t ht
theorem kds_szf {m : Nat} : ∀ (n : Nat) (F : Fo) (x : Int) (l : List Int), Szf m F → Szf m (kds n F x l).1
 | 0, _, _, _, h => h
 | n + 1, F, x, l, h => by
  rw [kds_succ]
  split
  ·exact h
  ·have hst : ∀ (r : Fo × List Int) (k : Int), Szf m r.1 → Szf m (kst n r k).1 := fun r k hr => by
    unfold kst
    split
    ·exact hr
    ·split
     ·exact hr
     ·split
      ·exact kds_szf n _ _ _ hr
      ·exact kds_szf n _ _ _ (hr.turn (Nat.le_refl m) _ _ fun s hs => hs.apls)
   have hf : ∀ (L : List Int) (r : Fo × List Int), Szf m r.1 → Szf m (L.foldl (kst n) r).1 := fun L => by
    induction L with
    | nil => exact fun r hr => hr
    | cons k L ih => exact fun r hr => ih _ (hst r k hr)
   exact hf _ (F, l) h
theorem Szf.com {m : Nat} {F : Fo} (h : Szf m F) (n : Nat) (id : Int) : Szf m (comF n F id).1 := by
 rw [comF_eq]
 split
 ·exact h
 ·split
  ·exact h.turn (Nat.le_refl m) _ _ fun s hs => hs.cacs
  ·exact kds_szf n _ _ _ (h.turn (Nat.le_refl m) _ _ fun s hs => hs.coms)
end
section
theorem Anc.chain {F : Fo} {y a : Int} (h : Anc F y a) : ∀ {b : Int}, Anc F y b → Anc F a b ∨ Anc F b a := by
 induction h with
 | self _ => exact fun hb => .inl hb
 | up h1 h2 ih =>
  intro b hb
  cases hb with
  | self h3 => exact .inr (.up h1 h2)
  | up h3 h4 =>
   rw [h1] at h3
   cases h3
   exact ih h4
noncomputable def dsc (F : Fo) (x : Int) : Nat := ((keys F).filter fun y => anc F y x).length
theorem dsc_le (F : Fo) (x : Int) : dsc F x ≤ F.length := by
 refine Nat.le_trans (List.length_filter_le _ _) ?_
 rw [keys, List.length_map]
 exact Nat.le_refl _
theorem Tre.dsc {F G : Fo} (h : Tre F G) (x : Int) : dsc F x = dsc G x := by
 unfold Go.Proofs.YtkjempffidndeaaGreatDoor.dsc
 rw [h.keys]
 congr 1
 refine List.filter_congr fun y _ => ?_
 rw [Bool.eq_iff_iff, anc_true, anc_true]
 exact ⟨h.anc, h.symm.anc⟩
theorem filter_or {α : Type} (l : List α) (p r : α → Bool) (h : ∀ x, p x = true → r x = true → False) : (l.filter p).length + (l.filter r).length = (l.filter fun x => p x || r x).length := by
 induction l with
 | nil => rfl
 | cons x l ih =>
  rw [List.filter_cons, List.filter_cons, List.filter_cons]
  cases hp : p x with
  | true =>
   cases hr : r x with
   | true => exact (h x hp hr).elim
   | false => simp only [Bool.or_false, if_true, List.length_cons]; simp; omega
  | false =>
   cases hr : r x with
   | true => simp only [Bool.false_or, if_true, List.length_cons]; simp; omega
   | false => simpa using ih
theorem kids_sum {F : Fo} (hA : Acy F) {x : Int} : ∀ {ks : List Int}, ks.Nodup → (∀ k ∈ ks, ∃ c, gt F k = some c ∧ c.par = x) → (ks.map (dsc F)).sum = ((keys F).filter fun y => ks.any fun k => anc F y k).length
 | [], _, _ => by
  have h : (keys F).filter (fun y => ([] : List Int).any fun k => anc F y k) = [] := List.filter_eq_nil_iff.2 (by simp)
  rw [h]
  rfl
 | k :: ks, hn, hk => by
  rw [List.nodup_cons] at hn
  have ih := kids_sum hA hn.2 (fun k' hk' => hk k' (by simp [hk']))
  rw [List.map_cons, List.sum_cons, ih, dsc, filter_or]
  ·congr 1
  ·intro y h1 h2
   obtain ⟨k', hk', h3⟩ := List.any_eq_true.1 h2
   obtain ⟨c, hc, hp⟩ := hk k (by simp)
   obtain ⟨c', hc', hp'⟩ := hk k' (by simp [hk'])
   have hne : k ≠ k' := fun e => hn.1 (by rw [e]; exact hk')
   rcases (anc_true.1 h1).chain (anc_true.1 h3) with h | h
   ·obtain ⟨s, hs, h | h⟩ := anc_iff.1 h
    ·exact hne h
    ·rw [hc] at hs
     cases hs
     rw [hp, ← hp'] at h
     exact hA.no k' c' hc' h
   ·obtain ⟨s, hs, h | h⟩ := anc_iff.1 h
    ·exact hne h.symm
    ·rw [hc'] at hs
     cases hs
     rw [hp', ← hp] at h
     exact hA.no k c hc h
theorem kids_dsc {F : Fo} (hA : Acy F) {x : Int} {s : Sf} (hs : gt F x = some s) {ks : List Int} (hn : ks.Nodup) (hk : ∀ k ∈ ks, ∃ c, gt F k = some c ∧ c.par = x) : 1 + (ks.map (dsc F)).sum ≤ dsc F x := by
 rw [kids_sum hA hn hk, Nat.add_comm]
 refine filter_lt (fun y hy => ?_) (a := x) (gt_some.1 (by rw [hs]; rfl)) ?_ (anc_true.2 (.self hs))
 ·obtain ⟨k, hk', h1⟩ := List.any_eq_true.1 hy
  obtain ⟨c, hc, hp⟩ := hk k hk'
  exact anc_true.2 ((anc_true.1 h1).trans (.up hc (by rw [hp]; exact .self hs)))
 ·rw [Bool.eq_false_iff]
  intro h
  obtain ⟨k, hk', h1⟩ := List.any_eq_true.1 h
  obtain ⟨c, hc, hp⟩ := hk k hk'
  exact hA.no k c hc (by rw [hp]; exact anc_true.1 h1)
structure Nos (s : Sf) : Prop where
 pe : (un1 s.pe.od).Nodup
 ca : (un1 s.ca.od).Nodup
 no : (un1 s.no.od).Nodup
def Nof (F : Fo) : Prop := ∀ x s, gt F x = some s → Nos s
theorem nodup_filter_ne {l : List Int} (h : l.Nodup) : (l.filter fun k => k != 0).Nodup := h.sublist List.filter_sublist
theorem sum_map_le {l : List Int} {f g : Int → Nat} (h : ∀ k ∈ l, f k ≤ g k) : (l.map f).sum ≤ (l.map g).sum := by
 induction l with
 | nil => exact Nat.le_refl _
 | cons k l ih =>
  rw [List.map_cons, List.map_cons, List.sum_cons, List.sum_cons]
  have h1 := h k (by simp)
  have h2 := ih fun k' hk' => h k' (by simp [hk'])
  omega
theorem sum_zero {l : List Int} (hn : l.Nodup) (f : Int → Nat) (h0 : f 0 ≤ 1) : (l.map f).sum ≤ 1 + ((l.filter fun k => k != 0).map f).sum := by
 induction l with
 | nil => simp
 | cons k l ih =>
  rw [List.nodup_cons] at hn
  rw [List.map_cons, List.sum_cons, List.filter_cons]
  by_cases hk : k = 0
  ·rw [if_neg (by simpa using hk)]
   have : (l.filter fun k => k != 0) = l := by
    rw [List.filter_eq_self]
    intro z hz
    simp only [bne_iff_ne, ne_eq]
    intro e
    exact hn.1 (by rw [hk, ← e]; exact hz)
   rw [this, hk]
   omega
  ·rw [if_pos (by simpa using hk), List.map_cons, List.sum_cons]
   have := ih hn.2
   omega
theorem kid_mem {F : Fo} (hI : Inv F) {x : Int} {s : Sf} (hs : gt F x = some s) : ∀ k ∈ (un1 s.no.od).filter (fun k => k != 0), ∃ c, gt F k = some c ∧ c.par = x := fun k hk => by
 obtain ⟨h1, h2⟩ := List.mem_filter.1 hk
 exact hI.kid x s hs k (.inr (.inr h1)) (by simpa using h2)
theorem wlk_length {F : Fo} (hI : Inv F) (hN : Nof F) : ∀ (n : Nat) (x a b : Int), (wlk F n x a b).length ≤ dsc F x
 | 0, _, _, _ => Nat.zero_le _
 | n + 1, x, a, b => by
  unfold wlk
  split
  ·exact Nat.zero_le _
  ·rename_i s hs
   split
   ·exact Nat.zero_le _
   ·have hn := (hN x s hs).no
    rw [List.length_flatMap]
    refine Nat.le_trans (Nat.le_trans (sum_zero hn _ (by simp)) ?_) (kids_dsc hI.acy hs (nodup_filter_ne hn) (kid_mem hI hs))
    refine Nat.add_le_add_left (sum_map_le fun k hk => ?_) 1
    have hk0 : k ≠ 0 := by
     have := (List.mem_filter.1 hk).2
     simpa using this
    rw [if_neg hk0]
    exact wlk_length hI hN n k _ _
theorem nos_sf0 : Nos sf0 := ⟨by simp [sf0, sq0, un1], by simp [sf0, sq0, un1], by simp [sf0, sqA, un1]⟩
theorem Nof.turn {F : Fo} (h : Nof F) (id : Int) (f : Sf → Sf) (hf : ∀ s, gt F id = some s → Nos s → Nos (f s)) : Nof (upd F id f) := fun x s hs => by
 rw [gt_upd] at hs
 split at hs
 ·obtain ⟨t, ht, rfl⟩ := Option.map_eq_some_iff.1 hs
  exact hf t ht (h _ t ht)
 ·exact h x s hs
theorem nodup_out {id : Int} {l : List (List Int)} (h : (un1 l).Nodup) : (un1 (outL id l)).Nodup := h.sublist (List.Sublist.map _ List.filter_sublist)
theorem Nos.out {s : Sf} (h : Nos s) (id : Int) : Nos (outS id s) := ⟨nodup_out h.pe, nodup_out h.ca, nodup_out h.no⟩
theorem nodup_dr {id : Int} {l : List Int} (h : l.Nodup) : (dr id l).Nodup := h.sublist List.filter_sublist
theorem nodup_top {id : Int} {l : List Int} (h : l.Nodup) : (dr id l ++ [id]).Nodup := by
 rw [List.nodup_append]
 refine ⟨nodup_dr h, by simp, fun a ha b hb e => ?_⟩
 simp only [List.mem_singleton] at hb
 exact (mem_dr.1 ha).2 (by rw [e, hb])
theorem nodup_ins {l : List Int} {i : Nat} {z : Int} (h : l.Nodup) (hz : z ∉ l) : (ins l i z).Nodup := by
 have h1 : (z :: l).Nodup := List.nodup_cons.2 ⟨hz, h⟩
 refine (List.Perm.nodup_iff ?_).2 h1
 unfold ins
 refine List.perm_middle.trans ?_
 rw [List.take_append_drop]
theorem nodup_bes {l m : List Int} {id by_ : Int} {b : Nat} (h : l.Nodup) (hm : bes l id by_ b = some m) : m.Nodup := by
 unfold bes at hm
 split at hm
 ·cases hm
 ·obtain ⟨i, _, rfl⟩ := Option.map_eq_some_iff.1 hm
  exact nodup_ins (nodup_dr h) (fun hm => (mem_dr.1 hm).2 rfl)
theorem nodup_lat {s : Sf} (h : Nos s) : (un1 (lat s)).Nodup := by
 unfold lat
 cases s.pe.ord
 ·cases s.ca.ord
  ·exact h.no
  ·exact h.ca
 ·exact h.pe
theorem Nos.ord {s : Sf} (h : Nos s) {l : List Int} (hl : l.Nodup) : Nos (ordS (sg l) s) := ⟨by show (un1 (sg l)).Nodup; rw [un1_sg]; exact hl, h.ca, h.no⟩
theorem Nos.keep {s t : Sf} (h : Nos s) (h1 : t.pe.od = s.pe.od) (h2 : t.ca.od = s.ca.od) (h3 : t.no.od = s.no.od) : Nos t := ⟨by rw [h1]; exact h.pe, by rw [h2]; exact h.ca, by rw [h3]; exact h.no⟩
theorem mrg_nodup {a b : Sq} (ha : (un1 a.od).Nodup) (hb : (un1 b.od).Nodup) : (un1 (mrg a b).od).Nodup := by
 simp only [mrg]
 cases b.ord
 ·exact ha
 ·exact hb
theorem Nos.apls {s : Sf} (h : Nos s) : Nos (aplS s) := ⟨h.pe, by simp [aplS, sq0, un1], mrg_nodup (a := s.no) (b := s.ca) h.no h.ca⟩
theorem Nos.cacs {s : Sf} (h : Nos s) : Nos (cacS s) := ⟨by simp [cacS, sq0, un1], mrg_nodup (a := s.ca) (b := s.pe) h.ca h.pe, h.no⟩
theorem Nos.coms {s : Sf} (h : Nos s) : Nos (comS s) := by rw [coms_eq]; exact h.cacs.apls
theorem nof_nil : Nof [] := fun _ _ h => by cases h
theorem Nof.add {F : Fo} (h : Nof F) (id : Int) : Nof (addF F id) := by
 unfold addF
 split
 ·intro x s hs
  rw [gt_app] at hs
  split at hs
  ·exact h x s hs
  ·split at hs
   ·cases hs
    exact nos_sf0
   ·cases hs
 ·exact h
theorem Nof.uns {F : Fo} (h : Nof F) (id : Int) : Nof (unsF F id) := by
 unfold unsF
 split
 ·exact h
 ·split
  ·exact h
  ·exact (h.turn _ _ fun s _ hs => hs.out id).turn _ _ fun s _ hs => hs.keep rfl rfl rfl
theorem Nof.drp {F : Fo} (h : Nof F) (id : Int) : Nof (drpF F id) := by
 cases hs : gt F id with
 | none =>
  unfold drpF
  rw [hs]
  exact h
 | some s =>
  intro x t ht
  rw [drpF_gt hs] at ht
  split at ht
  ·cases ht
  ·obtain ⟨u, hu, rfl⟩ := Option.map_eq_some_iff.1 ht
   have := h.uns id x u hu
   unfold selfS
   split
   ·exact this.keep rfl rfl rfl
   ·exact this
theorem Nof.sub {F : Fo} (h : Nof F) (id p : Int) : Nof (subF F id p) := by
 unfold subF
 split
 ·have h1 : Nof (upd F id fun s => { s with par := p, syn := true }) := h.turn _ _ fun s _ hs => hs.keep rfl rfl rfl
  exact h1.turn _ _ fun s _ hs => (hs.ord (nodup_top (nodup_lat hs))).keep rfl rfl rfl
 ·exact h
theorem Nof.posn {F : Fo} (h : Nof F) (id x y : Int) : Nof (posF F id x y) := by
 unfold posF
 split
 ·exact h
 ·split
  ·exact h
  ·exact h.turn _ _ fun s _ hs => hs.keep rfl rfl rfl
theorem putL_nodup {F : Fo} (h : Nof F) {id by_ : Int} {b : Nat} {p : Int} {l : List Int} (hp : putL F id by_ b = some (p, l)) : l.Nodup := by
 unfold putL at hp
 split at hp
 ·cases hp
 ·split at hp
  ·cases hp
  ·split at hp
   ·cases hp
   ·rename_i q hq
    have hl := nodup_lat (h _ _ hq)
    split at hp
    ·obtain ⟨m', hm, e⟩ := Option.map_eq_some_iff.1 hp
     cases e
     exact nodup_bes hl hm
    ·split at hp
     ·cases hp
     ·obtain ⟨m', hm, e⟩ := Option.map_eq_some_iff.1 hp
      cases e
      exact nodup_bes hl hm
theorem Nof.put {F : Fo} (h : Nof F) (id by_ : Int) (b : Nat) : Nof (putF F id by_ b) := by
 unfold putF
 split
 ·exact h
 ·rename_i p l hp
  exact h.turn _ _ fun s _ hs => hs.ord (putL_nodup h hp)
theorem Nof.syn {F : Fo} (h : Nof F) (id : Int) (on : Bool) : Nof (synF F id on) := by
 unfold synF
 split
 ·exact h
 ·rename_i s hs
  split
  ·exact h
  ·intro x t ht
   rw [gt_st] at ht
   split at ht
   ·rw [hs] at ht
    cases ht
    exact (h _ _ hs).keep rfl rfl rfl
   ·exact h x t ht
theorem kds_nof : ∀ (n : Nat) (F : Fo) (x : Int) (l : List Int), Nof F → Nof (kds n F x l).1
 | 0, _, _, _, h => h
 | n + 1, F, x, l, h => by
  rw [kds_succ]
  split
  ·exact h
  ·have hst : ∀ (r : Fo × List Int) (k : Int), Nof r.1 → Nof (kst n r k).1 := fun r k hr => by
    unfold kst
    split
    ·exact hr
    ·split
     ·exact hr
     ·split
      ·exact kds_nof n _ _ _ hr
      ·exact kds_nof n _ _ _ (hr.turn _ _ fun s _ hs => hs.apls)
   have hf : ∀ (L : List Int) (r : Fo × List Int), Nof r.1 → Nof (L.foldl (kst n) r).1 := fun L => by
    induction L with
    | nil => exact fun r hr => hr
    | cons k L ih => exact fun r hr => ih _ (hst r k hr)
   exact hf _ (F, l) h
theorem Nof.com {F : Fo} (h : Nof F) (n : Nat) (id : Int) : Nof (comF n F id).1 := by
 rw [comF_eq]
 split
 ·exact h
 ·split
  ·exact h.turn _ _ fun s _ hs => hs.cacs
  ·exact kds_nof n _ _ _ (h.turn _ _ fun s _ hs => hs.coms)
theorem kds_length : ∀ (n : Nat) (F : Fo) (x : Int) (l : List Int), Inv F → Nof F → (gt F x).isSome = true → (kds n F x l).2.length + 1 ≤ l.length + dsc F x
 | 0, F, x, l, hI, _, hx => by
  obtain ⟨s, hs⟩ := Option.isSome_iff_exists.1 hx
  have := kids_dsc hI.acy hs (ks := []) List.nodup_nil (fun _ h => by cases h)
  simp only [List.map_nil, List.sum_nil] at this
  show l.length + 1 ≤ _
  omega
 | n + 1, F, x, l, hI, hN, hx => by
  obtain ⟨s, hs⟩ := Option.isSome_iff_exists.1 hx
  rw [kds_succ, hs]
  have hst : ∀ (r : Fo × List Int) (k : Int), Inv r.1 → Nof r.1 → Tre F r.1 → k ≠ 0 → (kst n r k).2.length ≤ r.2.length + dsc F k := fun r k hr hrn ht hk0 => by
   unfold kst
   split
   ·omega
   ·rename_i c hc
    split
    ·omega
    ·split
     ·have := kds_length n r.1 k r.2 hr hrn (by rw [hc]; rfl)
      rw [ht.dsc]
      omega
     ·have htu := tre_upd r.1 k aplS (fun _ => ⟨rfl, rfl⟩)
      obtain ⟨t, h1, _⟩ := htu.some hc
      have := kds_length n (upd r.1 k aplS) k (r.2 ++ [k]) (hr.apls k) (hrn.turn _ _ fun s _ hs => hs.apls) (by rw [h1]; rfl)
      rw [List.length_append, List.length_singleton, ← htu.dsc, ← ht.dsc] at this
      omega
  have hst0 : ∀ (r : Fo × List Int), Inv r.1 → kst n r 0 = r := fun r hr => by
   unfold kst
   rw [hr.zero]
  have hf : ∀ (K : List Int) (r : Fo × List Int), Inv r.1 → Nof r.1 → Tre F r.1 → (K.foldl (kst n) r).2.length ≤ r.2.length + ((K.filter fun k => k != 0).map (dsc F)).sum := fun K => by
   induction K with
   | nil => exact fun r _ _ _ => Nat.le_refl _
   | cons k K ih =>
    intro r hr hrn ht
    rw [List.foldl_cons]
    by_cases hk : k = 0
    ·rw [hk, hst0 r hr, List.filter_cons, if_neg (by simp)]
     exact ih r hr hrn ht
    ·rw [List.filter_cons, if_pos (by simpa using hk), List.map_cons, List.sum_cons]
     have h1 := hst r k hr hrn ht hk
     have hks : Inv (kst n r k).1 ∧ Tre r.1 (kst n r k).1 ∧ Nof (kst n r k).1 := by
      unfold kst
      split
      ·exact ⟨hr, Tre.refl _, hrn⟩
      ·split
       ·exact ⟨hr, Tre.refl _, hrn⟩
       ·split
        ·exact ⟨(kds_inv n _ _ _ hr).1, (kds_inv n _ _ _ hr).2, kds_nof n _ _ _ hrn⟩
        ·have h1 := kds_inv n (upd r.1 k aplS) k (r.2 ++ [k]) (hr.apls k)
         exact ⟨h1.1, (tre_upd r.1 k aplS (fun _ => ⟨rfl, rfl⟩)).trans h1.2, kds_nof n _ _ _ (hrn.turn _ _ fun s _ hs => hs.apls)⟩
     have h2 := ih _ hks.1 hks.2.2 (ht.trans hks.2.1)
     omega
  have h1 := hf (un1 s.no.od) (F, l) hI hN (Tre.refl F)
  have h2 := kids_dsc hI.acy hs (nodup_filter_ne (hN x s hs).no) (kid_mem hI hs)
  dsimp only at h1 ⊢
  omega
end
section
def Bt (z : Int) : Prop := -9223372036854775808 ≤ z ∧ z ≤ 9223372036854775807
structure Bus (s : Sf) : Prop where
 pe : Bt s.pe.buf
 ca : Bt s.ca.buf
 no : Bt s.no.buf
structure Bof (F : Fo) : Prop where
 keys : ∀ x ∈ Go.Proofs.YtkjempffidndeaaGreatDoor.keys F, Bt x
 bus : ∀ x s, gt F x = some s → Bus s
theorem bt0 : Bt 0 := ⟨by decide, by decide⟩
theorem bus_sf0 : Bus sf0 := ⟨bt0, bt0, bt0⟩
theorem Bof.turn {F : Fo} (h : Bof F) (id : Int) (f : Sf → Sf) (hf : ∀ s, Bus s → Bus (f s)) : Bof (upd F id f) := ⟨by rw [keys_upd]; exact h.keys, fun x s hs => by
 rw [gt_upd] at hs
 split at hs
 ·obtain ⟨t, ht, rfl⟩ := Option.map_eq_some_iff.1 hs
  exact hf t (h.bus _ t ht)
 ·exact h.bus x s hs⟩
theorem Bus.keep {s t : Sf} (h : Bus s) (h1 : t.pe.buf = s.pe.buf) (h2 : t.ca.buf = s.ca.buf) (h3 : t.no.buf = s.no.buf) : Bus t := ⟨by rw [h1]; exact h.pe, by rw [h2]; exact h.ca, by rw [h3]; exact h.no⟩
theorem mrg_bt {a b : Sq} (ha : Bt a.buf) (hb : Bt b.buf) : Bt (mrg a b).buf := by
 simp only [mrg]
 cases b.at_
 ·exact ha
 ·exact hb
theorem apl_bt {a b : Sq} (ha : Bt a.buf) (hb : Bt b.buf) : Bt (apl a b).buf := mrg_bt (a := a) (b := b) ha hb
theorem Bus.apls {s : Sf} (h : Bus s) : Bus (aplS s) := ⟨h.pe, bt0, apl_bt h.no h.ca⟩
theorem Bus.cacs {s : Sf} (h : Bus s) : Bus (cacS s) := ⟨bt0, mrg_bt h.ca h.pe, h.no⟩
theorem Bus.coms {s : Sf} (h : Bus s) : Bus (comS s) := by rw [coms_eq]; exact h.cacs.apls
theorem Bus.att {s : Sf} (h : Bus s) {z : Int} (hz : Bt z) : Bus (attS z s) := ⟨hz, h.ca, h.no⟩
theorem bof_nil : Bof [] := ⟨(fun _ h => by cases h), (fun _ _ h => by cases h)⟩
theorem Bof.add {F : Fo} (h : Bof F) {id : Int} (hz : Bt id) : Bof (addF F id) := by
 unfold addF
 split
 ·refine ⟨fun x hx => ?_, fun x s hs => ?_⟩
  ·rw [Go.Proofs.YtkjempffidndeaaGreatDoor.keys, List.map_append, List.mem_append] at hx
   rcases hx with hx | hx
   ·exact h.keys x hx
   ·simp only [List.map_cons, List.map_nil, List.mem_singleton] at hx
    rw [hx]
    exact hz
  ·rw [gt_app] at hs
   split at hs
   ·exact h.bus x s hs
   ·split at hs
    ·cases hs
     exact bus_sf0
    ·cases hs
 ·exact h
theorem Bof.uns {F : Fo} (h : Bof F) (id : Int) : Bof (unsF F id) := by
 unfold unsF
 split
 ·exact h
 ·split
  ·exact h
  ·exact (h.turn _ (outS id) fun s hs => hs.keep rfl rfl rfl).turn _ (fun s => { s with par := 0 }) fun s hs => hs.keep rfl rfl rfl
theorem keys_gt {F : Fo} {x : Int} (h : x ∈ keys F) : ∃ s, gt F x = some s := by
 cases hs : gt F x with
 | none => exact absurd h (gt_none.1 hs)
 | some s => exact ⟨s, rfl⟩
theorem gt_keys {F : Fo} {x : Int} {s : Sf} (h : gt F x = some s) : x ∈ keys F := by
 by_cases hm : x ∈ keys F
 ·exact hm
 ·rw [gt_none.2 hm] at h
  cases h
theorem Bof.drp {F : Fo} (h : Bof F) (id : Int) : Bof (drpF F id) := by
 cases hs : gt F id with
 | none =>
  unfold drpF
  rw [hs]
  exact h
 | some s =>
  have hb : ∀ x t, gt (drpF F id) x = some t → Bus t ∧ Bt x := fun x t ht => by
   rw [drpF_gt hs] at ht
   split at ht
   ·cases ht
   ·obtain ⟨u, hu, rfl⟩ := Option.map_eq_some_iff.1 ht
    have := (h.uns id).bus x u hu
    refine ⟨?_, (h.uns id).keys x (gt_keys hu)⟩
    unfold selfS
    split
    ·exact this.keep rfl rfl rfl
    ·exact this
  exact ⟨fun x hx => by obtain ⟨t, ht⟩ := keys_gt hx; exact (hb x t ht).2, fun x t ht => (hb x t ht).1⟩
theorem Bof.sub {F : Fo} (h : Bof F) (id p : Int) : Bof (subF F id p) := by
 unfold subF
 split
 ·have h1 : Bof (upd F id fun s => { s with par := p, syn := true }) := h.turn _ _ fun s hs => hs.keep rfl rfl rfl
  exact h1.turn _ _ fun s hs => hs.keep rfl rfl rfl
 ·exact h
theorem Bof.posn {F : Fo} (h : Bof F) (id x y : Int) : Bof (posF F id x y) := by
 unfold posF
 split
 ·exact h
 ·split
  ·exact h
  ·exact h.turn _ _ fun s hs => hs.keep rfl rfl rfl
theorem Bof.put {F : Fo} (h : Bof F) (id by_ : Int) (b : Nat) : Bof (putF F id by_ b) := by
 unfold putF
 split
 ·exact h
 ·exact h.turn _ _ fun s hs => hs.keep rfl rfl rfl
theorem Bof.syn {F : Fo} (h : Bof F) (id : Int) (on : Bool) : Bof (synF F id on) := by
 unfold synF
 split
 ·exact h
 ·rename_i s hs
  split
  ·exact h
  ·refine ⟨by rw [keys_st]; exact h.keys, fun x t ht => ?_⟩
   rw [gt_st] at ht
   split at ht
   ·rw [hs] at ht
    cases ht
    exact (h.bus _ _ hs).keep rfl rfl rfl
   ·exact h.bus x t ht
theorem kds_bof : ∀ (n : Nat) (F : Fo) (x : Int) (l : List Int), Bof F → Bof (kds n F x l).1
 | 0, _, _, _, h => h
 | n + 1, F, x, l, h => by
  rw [kds_succ]
  split
  ·exact h
  ·have hst : ∀ (r : Fo × List Int) (k : Int), Bof r.1 → Bof (kst n r k).1 := fun r k hr => by
    unfold kst
    split
    ·exact hr
    ·split
     ·exact hr
     ·split
      ·exact kds_bof n _ _ _ hr
      ·exact kds_bof n _ _ _ (hr.turn _ _ fun s hs => hs.apls)
   have hf : ∀ (L : List Int) (r : Fo × List Int), Bof r.1 → Bof (L.foldl (kst n) r).1 := fun L => by
    induction L with
    | nil => exact fun r hr => hr
    | cons k L ih => exact fun r hr => ih _ (hst r k hr)
   exact hf _ (F, l) h
theorem Bof.com {F : Fo} (h : Bof F) (n : Nat) (id : Int) : Bof (comF n F id).1 := by
 rw [comF_eq]
 split
 ·exact h
 ·split
  ·exact h.turn _ _ fun s hs => hs.cacs
  ·exact kds_bof n _ _ _ (h.turn _ _ fun s hs => hs.coms)
end
section
structure Fok (m : Nat) (F : Fo) : Prop where
 inv : Inv F
 nof : Nof F
 szf : Szf m F
 bof : Bof F
theorem fok_nil : Fok 0 [] := ⟨inv_nil, nof_nil, szf_nil, bof_nil⟩
theorem Fok.mono {m n : Nat} {F : Fo} (h : Fok m F) (hm : m ≤ n) : Fok n F := ⟨h.inv, h.nof, h.szf.mono hm, h.bof⟩
variable {m : Nat} {F : Fo}
theorem Fok.add (h : Fok m F) {id : Int} (hz : Bt id) : Fok (m + 1) (addF F id) := ⟨h.inv.add id, h.nof.add id, h.szf.add id, h.bof.add hz⟩
theorem Fok.drp (h : Fok m F) (id : Int) : Fok (m + 1) (drpF F id) := ⟨h.inv.drp id, h.nof.drp id, (h.szf.drp id).mono (by omega), h.bof.drp id⟩
theorem Fok.sub (h : Fok m F) (id p : Int) : Fok (m + 1) (subF F id p) := ⟨h.inv.sub id p, h.nof.sub id p, h.szf.sub id p, h.bof.sub id p⟩
theorem Fok.uns (h : Fok m F) (id : Int) : Fok (m + 1) (unsF F id) := ⟨h.inv.uns id, h.nof.uns id, (h.szf.uns id).mono (by omega), h.bof.uns id⟩
theorem Fok.att (h : Fok m F) (id : Int) {b : Int} (hb : Bt b) : Fok (m + 1) (upd F id (attS b)) := ⟨h.inv.att id b, h.nof.turn _ _ fun _ _ hs => hs.keep rfl rfl rfl, h.szf.turn (by omega) _ _ fun _ hs => hs.att b, h.bof.turn _ _ fun _ hs => hs.att hb⟩
theorem Fok.dmg (h : Fok m F) (id : Int) (r : List Int) : Fok (m + 1) (upd F id (dmgS r)) := ⟨h.inv.dmg id r, h.nof.turn _ _ fun _ _ hs => hs.keep rfl rfl rfl, h.szf.turn (by omega) _ _ fun _ hs => hs.dmg r, h.bof.turn _ _ fun _ hs => hs.keep rfl rfl rfl⟩
theorem Fok.frm (h : Fok m F) (id c : Int) : Fok (m + 1) (upd F id (frmS c)) := ⟨h.inv.frm id c, h.nof.turn _ _ fun _ _ hs => hs.keep rfl rfl rfl, h.szf.turn (by omega) _ _ fun _ hs => hs.frm c, h.bof.turn _ _ fun _ hs => hs.keep rfl rfl rfl⟩
theorem Fok.inp (h : Fok m F) (id : Int) (a : Bool) {l : List (List Int)} (hl : l.length ≤ 20) : Fok (m + 1) (upd F id (inpS a l)) := ⟨h.inv.inp id a l, h.nof.turn _ _ fun _ _ hs => hs.keep rfl rfl rfl, h.szf.turn (by omega) _ _ fun _ hs => hs.inp a l hl, h.bof.turn _ _ fun _ hs => hs.keep rfl rfl rfl⟩
theorem Fok.posn (h : Fok m F) (id x y : Int) : Fok (m + 1) (posF F id x y) := ⟨h.inv.posn id x y, h.nof.posn id x y, h.szf.posn id x y, h.bof.posn id x y⟩
theorem Fok.put (h : Fok m F) (id by_ : Int) (b : Nat) : Fok (m + 1) (putF F id by_ b) := ⟨h.inv.put id by_ b, h.nof.put id by_ b, h.szf.put id by_ b, h.bof.put id by_ b⟩
theorem Fok.syn (h : Fok m F) (id : Int) (on : Bool) : Fok (m + 1) (synF F id on) := ⟨h.inv.syn id on, h.nof.syn id on, (h.szf.syn id on).mono (by omega), h.bof.syn id on⟩
theorem Fok.tak (h : Fok m F) (id : Int) : Fok (m + 1) (upd F id takS) := ⟨h.inv.tak id, h.nof.turn _ _ fun _ _ hs => hs.keep rfl rfl rfl, h.szf.turn (by omega) _ _ fun _ hs => hs.tak, h.bof.turn _ _ fun _ hs => hs.keep rfl rfl rfl⟩
theorem Fok.com (h : Fok m F) (n : Nat) (id : Int) : Fok (m + 1) (comF n F id).1 := ⟨h.inv.com n id, h.nof.com n id, (h.szf.com n id).mono (by omega), h.bof.com n id⟩
end
end Go.Proofs.YtkjempffidndeaaGreatDoor
