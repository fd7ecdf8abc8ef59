/- The document's forest in memory: a row of surfaces; S, edge, latest. -/
import Derived.Test.YtdgknofpkafppaaDoorBb
import Derived.Test.YtdgknofpkafppaaDoorBc
import Derived.Test.YtdgknofpkafppaaDoorBa
import Derived.Test.YtdgknofpkafppaaDoorRows
import Derived.WalkKit
import Derived.LaidEql
import Derived.Stop.Asserts
import Derived.Stop.LaidTwo
import Derived.RowKitTokens
import Derived.Outline
import Derived.LaidMore
import Derived.Deep.RegionLaw
import Derived.Deep.DeepHandedRow
namespace Go.Proofs.YtdgknofpkafppaaDoor
open Go Go.RowKit

/-- A surface's value, with what its slices read. -/
structure Sr where
  par : Int
  syn : Bool
  pe : Sx
  ca : Sx
  no : Sx
def Sr.f (s : Sr) : Sf := ⟨s.par, s.syn, s.pe.q, s.ca.q, s.no.q⟩
abbrev Ro := List (Int × Sr)
def abs (L : Ro) : Fo := L.map fun e => (e.1, e.2.f)
theorem abs_keys (L : Ro) : keys (abs L) = keys L := by simp [abs, keys]
theorem abs_length (L : Ro) : (abs L).length = L.length := by simp [abs]
theorem gt_abs (L : Ro) (x : Int) : gt (abs L) x = (gt L x).map Sr.f := by
  induction L with
  | nil => rfl
  | cons e L ih =>
    rw [abs, List.map_cons, gt, gt]
    split
    · rfl
    · exact ih
theorem abs_st (L : Ro) (id : Int) (s : Sr) : abs (st L id s) = st (abs L) id s.f := by
  rw [abs, st, st, abs, List.map_map, List.map_map]
  refine List.map_congr_left fun e _ => ?_
  simp only [Function.comp]
  split <;> rfl
theorem abs_upd {L : Ro} {id : Int} {s : Sr} (hs : gt L id = some s) (f : Sf → Sf) (s' : Sr) (h : s'.f = f s.f) : abs (st L id s') = upd (abs L) id f := by
  rw [abs_st, upd, gt_abs, hs, h]
  rfl
/-- A state's cells, a surface's. -/
def sxc (x : Sx) : List Value := [.bool x.at_, .int .i64 x.buf, .slice x.dm.a x.dm.n x.dm.c, .slice x.fr.a x.fr.n x.fr.c, .bool x.inp, .bool x.all, .slice x.rg.a x.rg.n x.rg.c, .bool x.ord, .slice x.od.a x.od.n x.od.c, .slice x.pl.a x.pl.n x.pl.c]
def scs (e : Int × Sr) : List Value := [.int .i64 e.1, .int .i64 e.2.par, .bool e.2.syn] ++ (sxc e.2.pe ++ (sxc e.2.ca ++ sxc e.2.no))
theorem scs_length (e : Int × Sr) : (scs e).length = 33 := rfl
def rcs (L : Ro) : List Value := L.flatMap scs
theorem rcs_nil : rcs [] = [] := rfl
theorem rcs_cons (e : Int × Sr) (L : Ro) : rcs (e :: L) = scs e ++ rcs L := rfl
theorem rcs_append (L M : Ro) : rcs (L ++ M) = rcs L ++ rcs M := by simp [rcs]
theorem rcs_length (L : Ro) : (rcs L).length = L.length * 33 := by
  induction L with
  | nil => rfl
  | cons e L ih => rw [rcs_cons, List.length_append, scs_length, ih, List.length_cons]; omega
theorem rcs_one (L : Ro) : ∀ u ∈ rcs L, u.oneCell' = true := by
  intro u hu
  obtain ⟨e, _, he⟩ := List.mem_flatMap.1 hu
  simp only [scs, sxc, List.mem_append, List.mem_cons, List.not_mem_nil, or_false] at he
  rcases he with (rfl | rfl | rfl) | (rfl | rfl | rfl | rfl | rfl | rfl | rfl | rfl | rfl | rfl) | (rfl | rfl | rfl | rfl | rfl | rfl | rfl | rfl | rfl | rfl) | (rfl | rfl | rfl | rfl | rfl | rfl | rfl | rfl | rfl | rfl) <;> rfl
theorem rcs_at {L : Ro} {i : Nat} {e : Int × Sr} (h : L[i]? = some e) {j : Nat} (hj : j < 33) : (rcs L)[i * 33 + j]? = (scs e)[j]? := by
  induction L generalizing i with
  | nil => simp at h
  | cons x L ih =>
    rw [rcs_cons]
    cases i with
    | zero =>
      simp only [List.getElem?_cons_zero, Option.some.injEq] at h
      subst h
      rw [Nat.zero_mul, Nat.zero_add, List.getElem?_append_left (by rw [scs_length]; exact hj)]
    | succ i =>
      rw [List.getElem?_append_right (by rw [scs_length]; omega), scs_length, show (i + 1) * 33 + j - 33 = i * 33 + j by omega]
      exact ih (by simpa using h)
theorem rcs_set {L : Ro} {i : Nat} {e : Int × Sr} (h : L[i]? = some e) {j : Nat} (hj : j < 33) (v : Value) (e' : Int × Sr) (he : scs e' = (scs e).set j v) : rcs (L.set i e') = (rcs L).set (i * 33 + j) v := by
  induction L generalizing i with
  | nil => simp at h
  | cons x L ih =>
    cases i with
    | zero =>
      simp only [List.getElem?_cons_zero, Option.some.injEq] at h
      subst h
      rw [List.set_cons_zero, rcs_cons, rcs_cons, he, Nat.zero_mul, Nat.zero_add, List.set_append_left _ _ (by rw [scs_length]; exact hj)]
    | succ i =>
      rw [List.set_cons_succ, rcs_cons, rcs_cons, ih (by simpa using h), List.set_append_right _ _ (by rw [scs_length]; omega), scs_length, show (i + 1) * 33 + j - 33 = i * 33 + j by omega]

/-- Where a number stands; written there. -/
theorem at_key {L : Ro} {id : Int} {s : Sr} (h : gt L id = some s) : ∃ i : Nat, L[i]? = some (id, s) ∧ (∀ (j : Nat) (e : Int × Sr), j < i → L[j]? = some e → e.1 ≠ id) := by
  induction L with
  | nil => cases h
  | cons e L ih =>
    rw [gt] at h
    split at h
    · rename_i hk
      cases h
      exact ⟨0, by rw [← hk]; rfl, fun j _ hj => absurd hj (by omega)⟩
    · rename_i hk
      obtain ⟨i, h1, h2⟩ := ih h
      refine ⟨i + 1, by simpa using h1, fun j e' hj he => ?_⟩
      cases j with
      | zero =>
        simp only [List.getElem?_cons_zero, Option.some.injEq] at he
        rw [← he]
        exact hk
      | succ j => exact h2 j e' (by omega) (by simpa using he)
theorem st_set {L : Ro} (hn : (keys L).Nodup) {i : Nat} {id : Int} {s : Sr} (h : L[i]? = some (id, s)) (s' : Sr) : st L id s' = L.set i (id, s') := by
  induction L generalizing i with
  | nil => simp at h
  | cons e L ih =>
    rw [keys, List.map_cons, List.nodup_cons] at hn
    cases i with
    | zero =>
      simp only [List.getElem?_cons_zero, Option.some.injEq] at h
      subst h
      rw [st, List.map_cons, if_pos rfl, List.set_cons_zero]
      congr 1
      conv => rhs; rw [← List.map_id L]
      refine List.map_congr_left fun x hx => ?_
      rw [if_neg (fun e' => hn.1 (by have h' := List.mem_map_of_mem (f := fun e : Int × Sr => e.1) hx; rw [e'] at h'; exact h'))]
      rfl
    | succ i =>
      have h' : L[i]? = some (id, s) := by simpa using h
      rw [st, List.map_cons, if_neg (fun e' => hn.1 (by rw [e']; exact List.mem_map_of_mem (f := fun e : Int × Sr => e.1) (List.mem_of_getElem? h'))), List.set_cons_succ]
      exact congrArg _ (ih hn.2 h')

structure Sr.Ok (w : World) (s : Sr) : Prop where
  pe : s.pe.Ok w
  ca : s.ca.Ok w
  no : s.no.Ok w
structure Sr.Off (P : Nat) (s : Sr) : Prop where
  pe : s.pe.Off P
  ca : s.ca.Off P
  no : s.no.Off P
theorem Sr.Ok.on {w u : World} {s : Sr} (h : s.Ok w) (hb : Below w.heap.size w u) : s.Ok u := ⟨h.pe.on hb, h.ca.on hb, h.no.on hb⟩
theorem Sr.Ok.kpo {w u : World} {s : Sr} {P : Nat} (h : s.Ok w) (ho : s.Off P) (hk : Kp [P] w u) : s.Ok u := ⟨h.pe.kpo ho.pe hk, h.ca.kpo ho.ca hk, h.no.kpo ho.no hk⟩

/-- Cells written one behind the other. -/
def stl (u : World) (g : Nat) : Nat → List Value → World
  | _, [] => u
  | o, x :: xs => stl (u.setCell ⟨g, o, none⟩ x) g (o + 1) xs
def setl : List Value → Nat → List Value → List Value
  | l, _, [] => l
  | l, o, x :: xs => setl (l.set o x) (o + 1) xs
theorem setl_length (l : List Value) : ∀ (o : Nat) (xs : List Value), (setl l o xs).length = l.length := fun o xs => by
  induction xs generalizing l o with
  | nil => rfl
  | cons x xs ih => rw [setl, ih, List.length_set]
theorem ownsRow_stl {u : World} {b e size n c g : Nat} {xs : List Value} (h : u.ownsRow b e size (.slice (some ⟨g, 0, none⟩) n c) n xs) : ∀ (o : Nat) (vs : List Value), (stl u g o vs).ownsRow b e size (.slice (some ⟨g, 0, none⟩) n c) n (setl xs o vs) := fun o vs => by
  induction vs generalizing u xs o with
  | nil => exact h
  | cons x vs ih => exact ih (h.stored o x).1 (o + 1)
theorem kp_stl (u : World) (g : Nat) : ∀ (o : Nat) (vs : List Value), Kp [g] u (stl u g o vs) := fun o vs => by
  induction vs generalizing u o with
  | nil => exact Kp.refl _ _
  | cons x vs ih => exact ((Kp.refl [g] u).set ⟨g, o, none⟩ (by simp) x).trans (ih _ (o + 1)) (fun k hk _ => hk)
theorem setl_mid (A C B : List Value) : ∀ (j : Nat) (vs : List Value), j + vs.length ≤ C.length → setl (A ++ (C ++ B)) (A.length + j) vs = A ++ (setl C j vs ++ B) := fun j vs => by
  induction vs generalizing C j with
  | nil => intro _; rfl
  | cons x vs ih =>
    intro h
    rw [List.length_cons] at h
    rw [setl, setl, List.set_append_right _ _ (by omega), Nat.add_sub_cancel_left, List.set_append_left _ _ (by omega), Nat.add_assoc]
    exact ih (C.set j x) (j + 1) (by rw [List.length_set]; omega)
/-- A state written whole, from the cell o on. -/
def sto (u : World) (g o : Nat) (r : Sx) : World := (((((((((u.setCell ⟨g, o, none⟩ (.bool r.at_)).setCell ⟨g, o + 1, none⟩ (.int .i64 r.buf)).setCell ⟨g, o + 2, none⟩ (.slice r.dm.a r.dm.n r.dm.c)).setCell ⟨g, o + 3, none⟩ (.slice r.fr.a r.fr.n r.fr.c)).setCell ⟨g, o + 4, none⟩ (.bool r.inp)).setCell ⟨g, o + 5, none⟩ (.bool r.all)).setCell ⟨g, o + 6, none⟩ (.slice r.rg.a r.rg.n r.rg.c)).setCell ⟨g, o + 7, none⟩ (.bool r.ord)).setCell ⟨g, o + 8, none⟩ (.slice r.od.a r.od.n r.od.c)).setCell ⟨g, o + 9, none⟩ (.slice r.pl.a r.pl.n r.pl.c)
theorem sto_eq (u : World) (g o : Nat) (r : Sx) : sto u g o r = stl u g o (sxc r) := rfl
/-- The latest order's slice. -/
def latS (s : Sr) : Sl := bif s.pe.ord then s.pe.od else bif s.ca.ord then s.ca.od else s.no.od
theorem latS_l (s : Sr) : (latS s).l = lat s.f := by
  unfold latS lat
  show _ = bif s.pe.ord then s.pe.od.l else bif s.ca.ord then s.ca.od.l else s.no.od.l
  cases s.pe.ord <;> cases s.ca.ord <;> rfl
theorem latS_ok {w : World} {s : Sr} (h : s.Ok w) : RdM 1 w (latS s).a (latS s).n (latS s).c (latS s).l := by
  unfold latS
  cases s.pe.ord
  · cases s.ca.ord
    · exact h.no.od
    · exact h.ca.od
  · exact h.pe.od
theorem un1_lat (s : Sr) : un1 (latS s).l = un1 (lat s.f) := by rw [latS_l]
theorem rz_of_rdm {w : World} {a : Option Addr} {n c : Nat} {l : List (List Int)} (h : RdM 1 w a n c l) : Rz w a n c (un1 l) :=
  ⟨by rw [un1_length]; exact h.len, h.le, h.max, h.hnil, fun hn => by
    obtain ⟨b, off, e, h1, h2⟩ := h.pl hn
    refine ⟨b, off, e, h1, fun j z hz => ?_⟩
    rw [un1, List.getElem?_map] at hz
    obtain ⟨y, hy, rfl⟩ := Option.map_eq_some_iff.1 hz
    have hs := h.size y (List.mem_of_getElem? hy)
    have := h2 j y hy 0 (hd y) (by
      match y, hs with
      | [z0], _ => rfl)
    rwa [Nat.mul_one, Nat.add_zero] at this⟩
theorem rdm_of_rz {w : World} {a : Option Addr} {n c : Nat} {l : List Int} (h : Rz w a n c l) : RdM 1 w a n c (sg l) :=
  ⟨by rw [sg_length]; exact h.len, h.le, h.max, h.hnil, fun hn => by
    obtain ⟨b, off, e, h1, h2⟩ := h.pl hn
    refine ⟨b, off, e, h1, fun j y hy i z hz => ?_⟩
    rw [sg, List.getElem?_map] at hy
    obtain ⟨t, ht, rfl⟩ := Option.map_eq_some_iff.1 hy
    cases i with
    | zero =>
      simp only [List.getElem?_cons_zero, Option.some.injEq] at hz
      subst hz
      rw [Nat.mul_one, Nat.add_zero]
      exact h2 j t ht
    | succ i => simp at hz, sg_size l⟩
theorem sl_of_owz {w w' : World} {v : Value} {m : List Int} (h : OwZ w w' v m) : ∃ l : Sl, v = .slice l.a l.n l.c ∧ l.l = sg m ∧ RdM 1 w' l.a l.n l.c l.l ∧ ∀ y, l.a = some y → w.heap.size ≤ y.block := by
  obtain ⟨a, c, rfl, hr, hf⟩ := h.rd
  exact ⟨⟨a, _, c, sg m⟩, rfl, rfl, rdm_of_rz hr, fun y hy => (hf y hy).1⟩
theorem Sx.Ok.q_len {x : Sx} {w : World} (h : x.Ok w) : x.dm.n = x.q.dm.length ∧ x.fr.n = x.q.fr.length ∧ x.rg.n = x.q.rg.length ∧ x.od.n = x.q.od.length ∧ x.pl.n = x.q.pl.length := ⟨h.dm.len.symm, h.fr.len.symm, h.rg.len.symm, h.od.len.symm, h.pl.len.symm⟩
theorem zs_len {m : Nat} {s : Sr} {w : World} (hz : Zs m s.f) (ok : s.Ok w) (hm : m ≤ 900) : s.pe.Len 1000 ∧ s.ca.Len 1000 ∧ s.no.Len 1000 := by
  obtain ⟨h1, h2, h3, h4, h5, _⟩ := hz
  have e1 := ok.pe.q_len
  have e2 := ok.ca.q_len
  have e3 := ok.no.q_len
  have f1 : s.f.pe = s.pe.q := rfl
  have f2 : s.f.ca = s.ca.q := rfl
  have f3 : s.f.no = s.no.q := rfl
  rw [f1, f2, f3] at h1 h2 h3 h4 h5
  unfold Sx.Len
  omega
end Go.Proofs.YtdgknofpkafppaaDoor

/- Forests: each once in an order; how many are in a surface; how long Walk's and Commit's lists are. No program. -/
namespace Go.Proofs.YtdgknofpkafppaaDoor
open Go Go.RowKit

theorem Anc.chain {F : Fo} {y a : Int} (h : Anc F y a) : ∀ {b : Int}, Anc F y b → Anc F a b ∨ Anc F b a := by
  induction h with
  | self _ => exact fun hb => .inl hb
  | up h1 h2 ih =>
    intro b hb
    cases hb with
    | self h3 => exact .inr (.up h1 h2)
    | up h3 h4 =>
      rw [h1] at h3
      cases h3
      exact ih h4
/-- How many are in it, itself among them. -/
noncomputable def dsc (F : Fo) (x : Int) : Nat := ((keys F).filter fun y => anc F y x).length
theorem dsc_le (F : Fo) (x : Int) : dsc F x ≤ F.length := by
  refine Nat.le_trans (List.length_filter_le _ _) ?_
  rw [keys, List.length_map]
  exact Nat.le_refl _
theorem Tre.dsc {F G : Fo} (h : Tre F G) (x : Int) : dsc F x = dsc G x := by
  unfold Go.Proofs.YtdgknofpkafppaaDoor.dsc
  rw [h.keys]
  congr 1
  refine List.filter_congr fun y _ => ?_
  rw [Bool.eq_iff_iff, anc_true, anc_true]
  exact ⟨h.anc, h.symm.anc⟩
theorem filter_or {α : Type} (l : List α) (p r : α → Bool) (h : ∀ x, p x = true → r x = true → False) : (l.filter p).length + (l.filter r).length = (l.filter fun x => p x || r x).length := by
  induction l with
  | nil => rfl
  | cons x l ih =>
    rw [List.filter_cons, List.filter_cons, List.filter_cons]
    cases hp : p x with
    | true =>
      cases hr : r x with
      | true => exact (h x hp hr).elim
      | false => simp only [Bool.or_false, if_true, List.length_cons]; simp; omega
    | false =>
      cases hr : r x with
      | true => simp only [Bool.false_or, if_true, List.length_cons]; simp; omega
      | false => simpa using ih
theorem filter_mono {α : Type} (l : List α) (p r : α → Bool) (h : ∀ x, p x = true → r x = true) : (l.filter p).length ≤ (l.filter r).length := by
  induction l with
  | nil => exact Nat.le_refl _
  | cons x l ih =>
    rw [List.filter_cons, List.filter_cons]
    cases hp : p x with
    | true => rw [h x hp]; simp; exact ih
    | false =>
      rw [if_neg (by simp)]
      split
      · rw [List.length_cons]; omega
      · exact ih
/-- Of children, each once: those that are in them are apart. -/
theorem kids_sum {F : Fo} (hA : Acy F) {x : Int} : ∀ {ks : List Int}, ks.Nodup → (∀ k ∈ ks, ∃ c, gt F k = some c ∧ c.par = x) → (ks.map (dsc F)).sum = ((keys F).filter fun y => ks.any fun k => anc F y k).length
  | [], _, _ => by
    have h : (keys F).filter (fun y => ([] : List Int).any fun k => anc F y k) = [] := List.filter_eq_nil_iff.2 (by simp)
    rw [h]
    rfl
  | k :: ks, hn, hk => by
    rw [List.nodup_cons] at hn
    have ih := kids_sum hA hn.2 (fun k' hk' => hk k' (by simp [hk']))
    rw [List.map_cons, List.sum_cons, ih, dsc, filter_or]
    · congr 1
    · intro y h1 h2
      obtain ⟨k', hk', h3⟩ := List.any_eq_true.1 h2
      obtain ⟨c, hc, hp⟩ := hk k (by simp)
      obtain ⟨c', hc', hp'⟩ := hk k' (by simp [hk'])
      have hne : k ≠ k' := fun e => hn.1 (by rw [e]; exact hk')
      rcases (anc_true.1 h1).chain (anc_true.1 h3) with h | h
      · obtain ⟨s, hs, h | h⟩ := anc_iff.1 h
        · exact hne h
        · rw [hc] at hs
          cases hs
          rw [hp, ← hp'] at h
          exact hA.no k' c' hc' h
      · obtain ⟨s, hs, h | h⟩ := anc_iff.1 h
        · exact hne h.symm
        · rw [hc'] at hs
          cases hs
          rw [hp', ← hp] at h
          exact hA.no k c hc h
theorem kids_dsc {F : Fo} (hA : Acy F) {x : Int} {s : Sf} (hs : gt F x = some s) {ks : List Int} (hn : ks.Nodup) (hk : ∀ k ∈ ks, ∃ c, gt F k = some c ∧ c.par = x) : 1 + (ks.map (dsc F)).sum ≤ dsc F x := by
  rw [kids_sum hA hn hk, Nat.add_comm]
  refine filter_lt (fun y hy => ?_) (a := x) (gt_some.1 (by rw [hs]; rfl)) ?_ (anc_true.2 (.self hs))
  · obtain ⟨k, hk', h1⟩ := List.any_eq_true.1 hy
    obtain ⟨c, hc, hp⟩ := hk k hk'
    exact anc_true.2 ((anc_true.1 h1).trans (.up hc (by rw [hp]; exact .self hs)))
  · rw [Bool.eq_false_iff]
    intro h
    obtain ⟨k, hk', h1⟩ := List.any_eq_true.1 h
    obtain ⟨c, hc, hp⟩ := hk k hk'
    exact hA.no k c hc (by rw [hp]; exact anc_true.1 h1)

/-- Each once in an order. -/
structure Nos (s : Sf) : Prop where
  pe : (un1 s.pe.od).Nodup
  ca : (un1 s.ca.od).Nodup
  no : (un1 s.no.od).Nodup
def Nof (F : Fo) : Prop := ∀ x s, gt F x = some s → Nos s
theorem nodup_filter_ne {l : List Int} (h : l.Nodup) : (l.filter fun k => k != 0).Nodup := h.sublist List.filter_sublist
theorem sum_map_le {l : List Int} {f g : Int → Nat} (h : ∀ k ∈ l, f k ≤ g k) : (l.map f).sum ≤ (l.map g).sum := by
  induction l with
  | nil => exact Nat.le_refl _
  | cons k l ih =>
    rw [List.map_cons, List.map_cons, List.sum_cons, List.sum_cons]
    have h1 := h k (by simp)
    have h2 := ih fun k' hk' => h k' (by simp [hk'])
    omega
/-- 0 stands at most once: it gives one at most. -/
theorem sum_zero {l : List Int} (hn : l.Nodup) (f : Int → Nat) (h0 : f 0 ≤ 1) : (l.map f).sum ≤ 1 + ((l.filter fun k => k != 0).map f).sum := by
  induction l with
  | nil => simp
  | cons k l ih =>
    rw [List.nodup_cons] at hn
    rw [List.map_cons, List.sum_cons, List.filter_cons]
    by_cases hk : k = 0
    · rw [if_neg (by simpa using hk)]
      have : (l.filter fun k => k != 0) = l := by
        rw [List.filter_eq_self]
        intro z hz
        simp only [bne_iff_ne, ne_eq]
        intro e
        exact hn.1 (by rw [hk, ← e]; exact hz)
      rw [this, hk]
      omega
    · rw [if_pos (by simpa using hk), List.map_cons, List.sum_cons]
      have := ih hn.2
      omega
theorem kid_mem {F : Fo} (hI : Inv F) {x : Int} {s : Sf} (hs : gt F x = some s) : ∀ k ∈ (un1 s.no.od).filter (fun k => k != 0), ∃ c, gt F k = some c ∧ c.par = x := fun k hk => by
  obtain ⟨h1, h2⟩ := List.mem_filter.1 hk
  exact hI.kid x s hs k (.inr (.inr h1)) (by simpa using h2)
theorem wlk_length {F : Fo} (hI : Inv F) (hN : Nof F) : ∀ (n : Nat) (x a b : Int), (wlk F n x a b).length ≤ dsc F x
  | 0, _, _, _ => Nat.zero_le _
  | n + 1, x, a, b => by
    unfold wlk
    split
    · exact Nat.zero_le _
    · rename_i s hs
      split
      · exact Nat.zero_le _
      · have hn := (hN x s hs).no
        rw [List.length_flatMap]
        refine Nat.le_trans (Nat.le_trans (sum_zero hn _ (by simp)) ?_) (kids_dsc hI.acy hs (nodup_filter_ne hn) (kid_mem hI hs))
        refine Nat.add_le_add_left (sum_map_le fun k hk => ?_) 1
        have hk0 : k ≠ 0 := by
          have := (List.mem_filter.1 hk).2
          simpa using this
        rw [if_neg hk0]
        exact wlk_length hI hN n k _ _

theorem nos_sf0 : Nos sf0 := ⟨by simp [sf0, sq0, un1], by simp [sf0, sq0, un1], by simp [sf0, sqA, un1]⟩
theorem Nof.turn {F : Fo} (h : Nof F) (id : Int) (f : Sf → Sf) (hf : ∀ s, gt F id = some s → Nos s → Nos (f s)) : Nof (upd F id f) := fun x s hs => by
  rw [gt_upd] at hs
  split at hs
  · obtain ⟨t, ht, rfl⟩ := Option.map_eq_some_iff.1 hs
    exact hf t ht (h _ t ht)
  · exact h x s hs
theorem nodup_out {id : Int} {l : List (List Int)} (h : (un1 l).Nodup) : (un1 (outL id l)).Nodup := h.sublist (List.Sublist.map _ List.filter_sublist)
theorem Nos.out {s : Sf} (h : Nos s) (id : Int) : Nos (outS id s) := ⟨nodup_out h.pe, nodup_out h.ca, nodup_out h.no⟩
theorem nodup_dr {id : Int} {l : List Int} (h : l.Nodup) : (dr id l).Nodup := h.sublist List.filter_sublist
theorem nodup_top {id : Int} {l : List Int} (h : l.Nodup) : (dr id l ++ [id]).Nodup := by
  rw [List.nodup_append]
  refine ⟨nodup_dr h, by simp, fun a ha b hb e => ?_⟩
  simp only [List.mem_singleton] at hb
  exact (mem_dr.1 ha).2 (by rw [e, hb])
theorem nodup_ins {l : List Int} {i : Nat} {z : Int} (h : l.Nodup) (hz : z ∉ l) : (ins l i z).Nodup := by
  have h1 : (z :: l).Nodup := List.nodup_cons.2 ⟨hz, h⟩
  refine (List.Perm.nodup_iff ?_).2 h1
  unfold ins
  refine List.perm_middle.trans ?_
  rw [List.take_append_drop]
theorem nodup_bes {l m : List Int} {id by_ : Int} {b : Nat} (h : l.Nodup) (hm : bes l id by_ b = some m) : m.Nodup := by
  unfold bes at hm
  split at hm
  · cases hm
  · obtain ⟨i, _, rfl⟩ := Option.map_eq_some_iff.1 hm
    exact nodup_ins (nodup_dr h) (fun hm => (mem_dr.1 hm).2 rfl)
theorem nodup_lat {s : Sf} (h : Nos s) : (un1 (lat s)).Nodup := by
  unfold lat
  cases s.pe.ord
  · cases s.ca.ord
    · exact h.no
    · exact h.ca
  · exact h.pe
theorem Nos.ord {s : Sf} (h : Nos s) {l : List Int} (hl : l.Nodup) : Nos (ordS (sg l) s) := ⟨by show (un1 (sg l)).Nodup; rw [un1_sg]; exact hl, h.ca, h.no⟩
theorem Nos.keep {s t : Sf} (h : Nos s) (h1 : t.pe.od = s.pe.od) (h2 : t.ca.od = s.ca.od) (h3 : t.no.od = s.no.od) : Nos t := ⟨by rw [h1]; exact h.pe, by rw [h2]; exact h.ca, by rw [h3]; exact h.no⟩
theorem mrg_nodup {a b : Sq} (ha : (un1 a.od).Nodup) (hb : (un1 b.od).Nodup) : (un1 (mrg a b).od).Nodup := by
  simp only [mrg]
  cases b.ord
  · exact ha
  · exact hb
theorem Nos.apls {s : Sf} (h : Nos s) : Nos (aplS s) := ⟨h.pe, by simp [aplS, sq0, un1], mrg_nodup (a := s.no) (b := s.ca) h.no h.ca⟩
theorem Nos.cacs {s : Sf} (h : Nos s) : Nos (cacS s) := ⟨by simp [cacS, sq0, un1], mrg_nodup (a := s.ca) (b := s.pe) h.ca h.pe, h.no⟩
theorem Nos.coms {s : Sf} (h : Nos s) : Nos (comS s) := by rw [coms_eq]; exact h.cacs.apls
theorem nof_nil : Nof [] := fun _ _ h => by cases h
theorem Nof.add {F : Fo} (h : Nof F) (id : Int) : Nof (addF F id) := by
  unfold addF
  split
  · intro x s hs
    rw [gt_app] at hs
    split at hs
    · exact h x s hs
    · split at hs
      · cases hs
        exact nos_sf0
      · cases hs
  · exact h
theorem Nof.uns {F : Fo} (h : Nof F) (id : Int) : Nof (unsF F id) := by
  unfold unsF
  split
  · exact h
  · split
    · exact h
    · exact (h.turn _ _ fun s _ hs => hs.out id).turn _ _ fun s _ hs => hs.keep rfl rfl rfl
theorem Nof.drp {F : Fo} (h : Nof F) (id : Int) : Nof (drpF F id) := by
  cases hs : gt F id with
  | none =>
    unfold drpF
    rw [hs]
    exact h
  | some s =>
    intro x t ht
    rw [drpF_gt hs] at ht
    split at ht
    · cases ht
    · obtain ⟨u, hu, rfl⟩ := Option.map_eq_some_iff.1 ht
      have := h.uns id x u hu
      unfold selfS
      split
      · exact this.keep rfl rfl rfl
      · exact this
theorem Nof.sub {F : Fo} (h : Nof F) (id p : Int) : Nof (subF F id p) := by
  unfold subF
  split
  · have h1 : Nof (upd F id fun s => { s with par := p, syn := true }) := h.turn _ _ fun s _ hs => hs.keep rfl rfl rfl
    exact h1.turn _ _ fun s _ hs => (hs.ord (nodup_top (nodup_lat hs))).keep rfl rfl rfl
  · exact h
theorem Nof.posn {F : Fo} (h : Nof F) (id x y : Int) : Nof (posF F id x y) := by
  unfold posF
  split
  · exact h
  · split
    · exact h
    · exact h.turn _ _ fun s _ hs => hs.keep rfl rfl rfl
theorem putL_nodup {F : Fo} (h : Nof F) {id by_ : Int} {b : Nat} {p : Int} {l : List Int} (hp : putL F id by_ b = some (p, l)) : l.Nodup := by
  unfold putL at hp
  split at hp
  · cases hp
  · split at hp
    · cases hp
    · split at hp
      · cases hp
      · rename_i q hq
        have hl := nodup_lat (h _ _ hq)
        split at hp
        · obtain ⟨m', hm, e⟩ := Option.map_eq_some_iff.1 hp
          cases e
          exact nodup_bes hl hm
        · split at hp
          · cases hp
          · obtain ⟨m', hm, e⟩ := Option.map_eq_some_iff.1 hp
            cases e
            exact nodup_bes hl hm
theorem Nof.put {F : Fo} (h : Nof F) (id by_ : Int) (b : Nat) : Nof (putF F id by_ b) := by
  unfold putF
  split
  · exact h
  · rename_i p l hp
    exact h.turn _ _ fun s _ hs => hs.ord (putL_nodup h hp)
theorem Nof.syn {F : Fo} (h : Nof F) (id : Int) (on : Bool) : Nof (synF F id on) := by
  unfold synF
  split
  · exact h
  · rename_i s hs
    split
    · exact h
    · intro x t ht
      rw [gt_st] at ht
      split at ht
      · rw [hs] at ht
        cases ht
        exact (h _ _ hs).keep rfl rfl rfl
      · exact h x t ht
theorem kds_nof : ∀ (n : Nat) (F : Fo) (x : Int) (l : List Int), Nof F → Nof (kds n F x l).1
  | 0, _, _, _, h => h
  | n + 1, F, x, l, h => by
    rw [kds_succ]
    split
    · exact h
    · have hst : ∀ (r : Fo × List Int) (k : Int), Nof r.1 → Nof (kst n r k).1 := fun r k hr => by
        unfold kst
        split
        · exact hr
        · split
          · exact hr
          · split
            · exact kds_nof n _ _ _ hr
            · exact kds_nof n _ _ _ (hr.turn _ _ fun s _ hs => hs.apls)
      have hf : ∀ (L : List Int) (r : Fo × List Int), Nof r.1 → Nof (L.foldl (kst n) r).1 := fun L => by
        induction L with
        | nil => exact fun r hr => hr
        | cons k L ih => exact fun r hr => ih _ (hst r k hr)
      exact hf _ (F, l) h
theorem Nof.com {F : Fo} (h : Nof F) (n : Nat) (id : Int) : Nof (comF n F id).1 := by
  rw [comF_eq]
  split
  · exact h
  · split
    · exact h.turn _ _ fun s _ hs => hs.cacs
    · exact kds_nof n _ _ _ (h.turn _ _ fun s _ hs => hs.coms)
/-- How long the list of those that were applied is. -/
theorem kds_length : ∀ (n : Nat) (F : Fo) (x : Int) (l : List Int), Inv F → Nof F → (gt F x).isSome = true → (kds n F x l).2.length + 1 ≤ l.length + dsc F x
  | 0, F, x, l, hI, _, hx => by
    obtain ⟨s, hs⟩ := Option.isSome_iff_exists.1 hx
    have := kids_dsc hI.acy hs (ks := []) List.nodup_nil (fun _ h => by cases h)
    simp only [List.map_nil, List.sum_nil] at this
    show l.length + 1 ≤ _
    omega
  | n + 1, F, x, l, hI, hN, hx => by
    obtain ⟨s, hs⟩ := Option.isSome_iff_exists.1 hx
    rw [kds_succ, hs]
    have hst : ∀ (r : Fo × List Int) (k : Int), Inv r.1 → Nof r.1 → Tre F r.1 → k ≠ 0 → (kst n r k).2.length ≤ r.2.length + dsc F k := fun r k hr hrn ht hk0 => by
      unfold kst
      split
      · omega
      · rename_i c hc
        split
        · omega
        · split
          · have := kds_length n r.1 k r.2 hr hrn (by rw [hc]; rfl)
            rw [ht.dsc]
            omega
          · have htu := tre_upd r.1 k aplS (fun _ => ⟨rfl, rfl⟩)
            obtain ⟨t, h1, _⟩ := htu.some hc
            have := kds_length n (upd r.1 k aplS) k (r.2 ++ [k]) (hr.apls k) (hrn.turn _ _ fun s _ hs => hs.apls) (by rw [h1]; rfl)
            rw [List.length_append, List.length_singleton, ← htu.dsc, ← ht.dsc] at this
            omega
    have hst0 : ∀ (r : Fo × List Int), Inv r.1 → kst n r 0 = r := fun r hr => by
      unfold kst
      rw [hr.zero]
    have hf : ∀ (K : List Int) (r : Fo × List Int), Inv r.1 → Nof r.1 → Tre F r.1 → (K.foldl (kst n) r).2.length ≤ r.2.length + ((K.filter fun k => k != 0).map (dsc F)).sum := fun K => by
      induction K with
      | nil => exact fun r _ _ _ => Nat.le_refl _
      | cons k K ih =>
        intro r hr hrn ht
        rw [List.foldl_cons]
        by_cases hk : k = 0
        · rw [hk, hst0 r hr, List.filter_cons, if_neg (by simp)]
          exact ih r hr hrn ht
        · rw [List.filter_cons, if_pos (by simpa using hk), List.map_cons, List.sum_cons]
          have h1 := hst r k hr hrn ht hk
          have hks : Inv (kst n r k).1 ∧ Tre r.1 (kst n r k).1 ∧ Nof (kst n r k).1 := by
            unfold kst
            split
            · exact ⟨hr, Tre.refl _, hrn⟩
            · split
              · exact ⟨hr, Tre.refl _, hrn⟩
              · split
                · exact ⟨(kds_inv n _ _ _ hr).1, (kds_inv n _ _ _ hr).2, kds_nof n _ _ _ hrn⟩
                · have h1 := kds_inv n (upd r.1 k aplS) k (r.2 ++ [k]) (hr.apls k)
                  exact ⟨h1.1, (tre_upd r.1 k aplS (fun _ => ⟨rfl, rfl⟩)).trans h1.2, kds_nof n _ _ _ (hrn.turn _ _ fun s _ hs => hs.apls)⟩
          have h2 := ih _ hks.1 hks.2.2 (ht.trans hks.2.1)
          omega
    have h1 := hf (un1 s.no.od) (F, l) hI hN (Tre.refl F)
    have h2 := kids_dsc hI.acy hs (nodup_filter_ne (hN x s hs).no) (kid_mem hI hs)
    dsimp only at h1 ⊢
    omega
end Go.Proofs.YtdgknofpkafppaaDoor

/- Forests: numbers and buffers are ints. No program. -/
namespace Go.Proofs.YtdgknofpkafppaaDoor
open Go Go.RowKit

def Bt (z : Int) : Prop := -9223372036854775808 ≤ z ∧ z ≤ 9223372036854775807
structure Bus (s : Sf) : Prop where
  pe : Bt s.pe.buf
  ca : Bt s.ca.buf
  no : Bt s.no.buf
structure Bof (F : Fo) : Prop where
  keys : ∀ x ∈ Go.Proofs.YtdgknofpkafppaaDoor.keys F, Bt x
  bus : ∀ x s, gt F x = some s → Bus s
theorem bt0 : Bt 0 := ⟨by decide, by decide⟩
theorem bus_sf0 : Bus sf0 := ⟨bt0, bt0, bt0⟩
theorem Bof.turn {F : Fo} (h : Bof F) (id : Int) (f : Sf → Sf) (hf : ∀ s, Bus s → Bus (f s)) : Bof (upd F id f) := ⟨by rw [keys_upd]; exact h.keys, fun x s hs => by
  rw [gt_upd] at hs
  split at hs
  · obtain ⟨t, ht, rfl⟩ := Option.map_eq_some_iff.1 hs
    exact hf t (h.bus _ t ht)
  · exact h.bus x s hs⟩
theorem Bus.keep {s t : Sf} (h : Bus s) (h1 : t.pe.buf = s.pe.buf) (h2 : t.ca.buf = s.ca.buf) (h3 : t.no.buf = s.no.buf) : Bus t := ⟨by rw [h1]; exact h.pe, by rw [h2]; exact h.ca, by rw [h3]; exact h.no⟩
theorem mrg_bt {a b : Sq} (ha : Bt a.buf) (hb : Bt b.buf) : Bt (mrg a b).buf := by
  simp only [mrg]
  cases b.at_
  · exact ha
  · exact hb
theorem apl_bt {a b : Sq} (ha : Bt a.buf) (hb : Bt b.buf) : Bt (apl a b).buf := mrg_bt (a := a) (b := b) ha hb
theorem Bus.apls {s : Sf} (h : Bus s) : Bus (aplS s) := ⟨h.pe, bt0, apl_bt h.no h.ca⟩
theorem Bus.cacs {s : Sf} (h : Bus s) : Bus (cacS s) := ⟨bt0, mrg_bt h.ca h.pe, h.no⟩
theorem Bus.coms {s : Sf} (h : Bus s) : Bus (comS s) := by rw [coms_eq]; exact h.cacs.apls
theorem Bus.att {s : Sf} (h : Bus s) {z : Int} (hz : Bt z) : Bus (attS z s) := ⟨hz, h.ca, h.no⟩
theorem bof_nil : Bof [] := ⟨(fun _ h => by cases h), (fun _ _ h => by cases h)⟩
theorem Bof.add {F : Fo} (h : Bof F) {id : Int} (hz : Bt id) : Bof (addF F id) := by
  unfold addF
  split
  · refine ⟨fun x hx => ?_, fun x s hs => ?_⟩
    · rw [Go.Proofs.YtdgknofpkafppaaDoor.keys, List.map_append, List.mem_append] at hx
      rcases hx with hx | hx
      · exact h.keys x hx
      · simp only [List.map_cons, List.map_nil, List.mem_singleton] at hx
        rw [hx]
        exact hz
    · rw [gt_app] at hs
      split at hs
      · exact h.bus x s hs
      · split at hs
        · cases hs
          exact bus_sf0
        · cases hs
  · exact h
theorem Bof.uns {F : Fo} (h : Bof F) (id : Int) : Bof (unsF F id) := by
  unfold unsF
  split
  · exact h
  · split
    · exact h
    · exact (h.turn _ (outS id) fun s hs => hs.keep rfl rfl rfl).turn _ (fun s => { s with par := 0 }) fun s hs => hs.keep rfl rfl rfl
theorem keys_gt {F : Fo} {x : Int} (h : x ∈ keys F) : ∃ s, gt F x = some s := by
  cases hs : gt F x with
  | none => exact absurd h (gt_none.1 hs)
  | some s => exact ⟨s, rfl⟩
theorem gt_keys {F : Fo} {x : Int} {s : Sf} (h : gt F x = some s) : x ∈ keys F := by
  by_cases hm : x ∈ keys F
  · exact hm
  · rw [gt_none.2 hm] at h
    cases h
theorem Bof.drp {F : Fo} (h : Bof F) (id : Int) : Bof (drpF F id) := by
  cases hs : gt F id with
  | none =>
    unfold drpF
    rw [hs]
    exact h
  | some s =>
    have hb : ∀ x t, gt (drpF F id) x = some t → Bus t ∧ Bt x := fun x t ht => by
      rw [drpF_gt hs] at ht
      split at ht
      · cases ht
      · obtain ⟨u, hu, rfl⟩ := Option.map_eq_some_iff.1 ht
        have := (h.uns id).bus x u hu
        refine ⟨?_, (h.uns id).keys x (gt_keys hu)⟩
        unfold selfS
        split
        · exact this.keep rfl rfl rfl
        · exact this
    exact ⟨fun x hx => by obtain ⟨t, ht⟩ := keys_gt hx; exact (hb x t ht).2, fun x t ht => (hb x t ht).1⟩
theorem Bof.sub {F : Fo} (h : Bof F) (id p : Int) : Bof (subF F id p) := by
  unfold subF
  split
  · have h1 : Bof (upd F id fun s => { s with par := p, syn := true }) := h.turn _ _ fun s hs => hs.keep rfl rfl rfl
    exact h1.turn _ _ fun s hs => hs.keep rfl rfl rfl
  · exact h
theorem Bof.posn {F : Fo} (h : Bof F) (id x y : Int) : Bof (posF F id x y) := by
  unfold posF
  split
  · exact h
  · split
    · exact h
    · exact h.turn _ _ fun s hs => hs.keep rfl rfl rfl
theorem Bof.put {F : Fo} (h : Bof F) (id by_ : Int) (b : Nat) : Bof (putF F id by_ b) := by
  unfold putF
  split
  · exact h
  · exact h.turn _ _ fun s hs => hs.keep rfl rfl rfl
theorem Bof.syn {F : Fo} (h : Bof F) (id : Int) (on : Bool) : Bof (synF F id on) := by
  unfold synF
  split
  · exact h
  · rename_i s hs
    split
    · exact h
    · refine ⟨by rw [keys_st]; exact h.keys, fun x t ht => ?_⟩
      rw [gt_st] at ht
      split at ht
      · rw [hs] at ht
        cases ht
        exact (h.bus _ _ hs).keep rfl rfl rfl
      · exact h.bus x t ht
theorem kds_bof : ∀ (n : Nat) (F : Fo) (x : Int) (l : List Int), Bof F → Bof (kds n F x l).1
  | 0, _, _, _, h => h
  | n + 1, F, x, l, h => by
    rw [kds_succ]
    split
    · exact h
    · have hst : ∀ (r : Fo × List Int) (k : Int), Bof r.1 → Bof (kst n r k).1 := fun r k hr => by
        unfold kst
        split
        · exact hr
        · split
          · exact hr
          · split
            · exact kds_bof n _ _ _ hr
            · exact kds_bof n _ _ _ (hr.turn _ _ fun s hs => hs.apls)
      have hf : ∀ (L : List Int) (r : Fo × List Int), Bof r.1 → Bof (L.foldl (kst n) r).1 := fun L => by
        induction L with
        | nil => exact fun r hr => hr
        | cons k L ih => exact fun r hr => ih _ (hst r k hr)
      exact hf _ (F, l) h
theorem Bof.com {F : Fo} (h : Bof F) (n : Nat) (id : Int) : Bof (comF n F id).1 := by
  rw [comF_eq]
  split
  · exact h
  · split
    · exact h.turn _ _ fun s hs => hs.cacs
    · exact kds_bof n _ _ _ (h.turn _ _ fun s hs => hs.coms)
theorem gt_in {F : Fo} (hn : (keys F).Nodup) {e : Int × Sf} (he : e ∈ F) : gt F e.1 = some e.2 := by
  induction F with
  | nil => cases he
  | cons a F ih =>
    rw [Go.Proofs.YtdgknofpkafppaaDoor.keys, List.map_cons, List.nodup_cons] at hn
    rw [gt]
    rcases List.mem_cons.1 he with rfl | he
    · exact if_pos rfl
    · rw [if_neg (fun e' => hn.1 (by rw [e']; exact List.mem_map_of_mem (f := fun e : Int × Sf => e.1) he))]
      exact ih hn.2 he
/-- What is held. -/
theorem Bof.hld {F : Fo} (h : Bof F) (hn : (Go.Proofs.YtdgknofpkafppaaDoor.keys F).Nodup) : ∀ z ∈ hldL F, Bt z := fun z hz => by
  obtain ⟨e, he, hm⟩ := List.mem_flatMap.1 hz
  have hb := h.bus _ _ (gt_in hn he)
  rcases List.mem_append.1 hm with hm | hm
  · cases hc : e.2.ca.at_ with
    | true =>
      rw [hc] at hm
      simp only [cond_true, List.mem_singleton] at hm
      rw [hm]
      exact hb.ca
    | false =>
      rw [hc] at hm
      cases hm
  · simp only [List.mem_singleton] at hm
    rw [hm]
    exact hb.no
end Go.Proofs.YtdgknofpkafppaaDoor

/- Forests: all that stays, call by call. No program. -/
namespace Go.Proofs.YtdgknofpkafppaaDoor
open Go Go.RowKit

/-- A forest after m calls. -/
structure Fok (m : Nat) (F : Fo) : Prop where
  inv : Inv F
  nof : Nof F
  szf : Szf m F
  bof : Bof F
theorem fok_nil : Fok 0 [] := ⟨inv_nil, nof_nil, szf_nil, bof_nil⟩
theorem Fok.mono {m n : Nat} {F : Fo} (h : Fok m F) (hm : m ≤ n) : Fok n F := ⟨h.inv, h.nof, h.szf.mono hm, h.bof⟩
theorem Fok.next {m : Nat} {F : Fo} (h : Fok m F) : Fok (m + 1) F := h.mono (by omega)
variable {m : Nat} {F : Fo}
theorem Fok.add (h : Fok m F) {id : Int} (hz : Bt id) : Fok (m + 1) (addF F id) := ⟨h.inv.add id, h.nof.add id, h.szf.add id, h.bof.add hz⟩
theorem Fok.drp (h : Fok m F) (id : Int) : Fok (m + 1) (drpF F id) := ⟨h.inv.drp id, h.nof.drp id, (h.szf.drp id).mono (by omega), h.bof.drp id⟩
theorem Fok.sub (h : Fok m F) (id p : Int) : Fok (m + 1) (subF F id p) := ⟨h.inv.sub id p, h.nof.sub id p, h.szf.sub id p, h.bof.sub id p⟩
theorem Fok.uns (h : Fok m F) (id : Int) : Fok (m + 1) (unsF F id) := ⟨h.inv.uns id, h.nof.uns id, (h.szf.uns id).mono (by omega), h.bof.uns id⟩
theorem Fok.att (h : Fok m F) (id : Int) {b : Int} (hb : Bt b) : Fok (m + 1) (upd F id (attS b)) := ⟨h.inv.att id b, h.nof.turn _ _ fun _ _ hs => hs.keep rfl rfl rfl, h.szf.turn (by omega) _ _ fun _ hs => hs.att b, h.bof.turn _ _ fun _ hs => hs.att hb⟩
theorem Fok.dmg (h : Fok m F) (id : Int) (r : List Int) : Fok (m + 1) (upd F id (dmgS r)) := ⟨h.inv.dmg id r, h.nof.turn _ _ fun _ _ hs => hs.keep rfl rfl rfl, h.szf.turn (by omega) _ _ fun _ hs => hs.dmg r, h.bof.turn _ _ fun _ hs => hs.keep rfl rfl rfl⟩
theorem Fok.frm (h : Fok m F) (id c : Int) : Fok (m + 1) (upd F id (frmS c)) := ⟨h.inv.frm id c, h.nof.turn _ _ fun _ _ hs => hs.keep rfl rfl rfl, h.szf.turn (by omega) _ _ fun _ hs => hs.frm c, h.bof.turn _ _ fun _ hs => hs.keep rfl rfl rfl⟩
theorem Fok.inp (h : Fok m F) (id : Int) (a : Bool) {l : List (List Int)} (hl : l.length ≤ 20) : Fok (m + 1) (upd F id (inpS a l)) := ⟨h.inv.inp id a l, h.nof.turn _ _ fun _ _ hs => hs.keep rfl rfl rfl, h.szf.turn (by omega) _ _ fun _ hs => hs.inp a l hl, h.bof.turn _ _ fun _ hs => hs.keep rfl rfl rfl⟩
theorem Fok.posn (h : Fok m F) (id x y : Int) : Fok (m + 1) (posF F id x y) := ⟨h.inv.posn id x y, h.nof.posn id x y, h.szf.posn id x y, h.bof.posn id x y⟩
theorem Fok.put (h : Fok m F) (id by_ : Int) (b : Nat) : Fok (m + 1) (putF F id by_ b) := ⟨h.inv.put id by_ b, h.nof.put id by_ b, h.szf.put id by_ b, h.bof.put id by_ b⟩
theorem Fok.syn (h : Fok m F) (id : Int) (on : Bool) : Fok (m + 1) (synF F id on) := ⟨h.inv.syn id on, h.nof.syn id on, (h.szf.syn id on).mono (by omega), h.bof.syn id on⟩
theorem Fok.tak (h : Fok m F) (id : Int) : Fok (m + 1) (upd F id takS) := ⟨h.inv.tak id, h.nof.turn _ _ fun _ _ hs => hs.keep rfl rfl rfl, h.szf.turn (by omega) _ _ fun _ hs => hs.tak, h.bof.turn _ _ fun _ hs => hs.keep rfl rfl rfl⟩
theorem Fok.com (h : Fok m F) (n : Nat) (id : Int) : Fok (m + 1) (comF n F id).1 := ⟨h.inv.com n id, h.nof.com n id, (h.szf.com n id).mono (by omega), h.bof.com n id⟩
end Go.Proofs.YtdgknofpkafppaaDoor

/- The program's forest in memory: surfaces by their numbers, each in a block of its own, with slices that are written in place and slices that are only read. -/
namespace Go.Proofs.YtdgknofpkafppaaDoor
open Go Go.RowKit

/-- A surface of the program: its block and its value. -/
structure Ps where
  g : Nat
  s : Sr
abbrev Po := List (Int × Ps)
def pab (L : Po) : Fo := L.map fun e => (e.1, e.2.s.f)
theorem pab_keys (L : Po) : keys (pab L) = keys L := by simp [pab, keys]
theorem pab_length (L : Po) : (pab L).length = L.length := by simp [pab]
theorem gt_pab (L : Po) (x : Int) : gt (pab L) x = (gt L x).map fun e => e.s.f := by
  induction L with
  | nil => rfl
  | cons e L ih =>
    rw [pab, List.map_cons, gt, gt]
    split
    · rfl
    · exact ih
theorem pab_st (L : Po) (id : Int) (e : Ps) : pab (st L id e) = st (pab L) id e.s.f := by
  rw [pab, st, st, pab, List.map_map, List.map_map]
  refine List.map_congr_left fun e _ => ?_
  simp only [Function.comp]
  split <;> rfl
theorem pab_upd {L : Po} {id : Int} {e : Ps} (hs : gt L id = some e) (f : Sf → Sf) (e' : Ps) (h : e'.s.f = f e.s.f) : pab (st L id e') = upd (pab L) id f := by
  rw [pab_st, upd, gt_pab, hs, h]
  rfl
/-- The map's values. -/
def pmp (L : Po) : List (Int × Option Nat) := L.map fun e => (e.1, some e.2.g)
theorem pmp_keys (L : Po) : keys (pmp L) = keys L := by simp [pmp, keys]
theorem pmp_length (L : Po) : (pmp L).length = L.length := by simp [pmp]
theorem gt_pmp (L : Po) (x : Int) : gt (pmp L) x = (gt L x).map fun e => some e.g := by
  induction L with
  | nil => rfl
  | cons e L ih =>
    rw [pmp, List.map_cons, gt, gt]
    split
    · rfl
    · exact ih
theorem gt_of_mem {α : Type} {l : List (Int × α)} (hn : (keys l).Nodup) {x : Int × α} (hx : x ∈ l) : gt l x.1 = some x.2 := by
  induction l with
  | nil => cases hx
  | cons e l ih =>
    rw [keys, List.map_cons, List.nodup_cons] at hn
    rw [gt]
    rcases List.mem_cons.1 hx with rfl | hx
    · rw [if_pos rfl]
    · rw [if_neg (fun he => hn.1 (by rw [he]; exact List.mem_map_of_mem (f := fun e : Int × α => e.1) hx))]
      exact ih hn.2 hx
theorem pmp_st {L : Po} {id : Int} {e e' : Ps} (hn : (keys L).Nodup) (hs : gt L id = some e) (hg : e'.g = e.g) : pmp (st L id e') = pmp L := by
  rw [pmp, pmp, st, List.map_map]
  refine List.map_congr_left fun x hx => ?_
  simp only [Function.comp]
  split
  · rename_i h
    have : gt L x.1 = some x.2 := gt_of_mem hn hx
    rw [h, hs] at this
    cases this
    rw [← h, hg]
  · rfl

/-- A pointer to a block, as the map's value. -/
def ptv : Option Nat → Value
  | none => .pointer none
  | some g => .pointer (some ⟨g, 0, none⟩)
def ptd : Option Nat → DataW Unit
  | none => .nil
  | some g => .agg [.lit (.int .i64 g)]
def ptR : Value → Option (DataW Unit × List MemPlace)
  | .pointer none => some (.nil, [])
  | .pointer (some ⟨g, 0, none⟩) => some (.agg [.lit (.int .i64 g)], [])
  | _ => none
theorem ptR_mk (q : Option Nat) : ptR (ptv q) = some (ptd q, []) := by
  cases q with
  | none => rfl
  | some q => simp [ptR, ptv, ptd]
theorem ptR_inv {x : Value} {q : Option Nat} {ps : List MemPlace} (h : ptR x = some (ptd q, ps)) : x = ptv q := by
  unfold ptR at h
  split at h
  · cases q with
    | none => rfl
    | some q => simp [ptd] at h
  · rename_i g
    cases q with
    | none => simp [ptd] at h
    | some q =>
      simp only [ptd, Option.some.injEq, Prod.mk.injEq, DataW.agg.injEq, List.cons.injEq, DataW.lit.injEq, Lit.int.injEq, true_and, and_true] at h
      have e1 : g = q := by omega
      rw [e1]
      rfl
  · cases h

/-- A surface's cells. -/
def pcs (s : Sr) : List Value := sxc s.pe ++ (sxc s.ca ++ (sxc s.no ++ [.int .i64 s.par, .bool s.syn]))
theorem pcs_length (s : Sr) : (pcs s).length = 32 := rfl
def Sl.v (x : Sl) : Value := .slice x.a x.n x.c
def Sl.bl (x : Sl) : List Nat := x.v.ownBlock.toList
def Sl.Frb (x : Sl) (P : Nat) : Prop := ∀ y, x.a = some y → 0 < x.n → y.block ≠ P
/-- What is written in place; what is only read. -/
def wos (s : Sr) : List Sl := [s.pe.dm, s.pe.fr, s.pe.pl, s.ca.pl, s.no.pl]
def ros (s : Sr) : List Sl := [s.pe.rg, s.pe.od, s.ca.dm, s.ca.fr, s.ca.rg, s.ca.od, s.no.dm, s.no.fr, s.no.rg, s.no.od]
def wb (e : Ps) : List Nat := e.g :: (wos e.s).flatMap Sl.bl
/-- A surface's rows. -/
structure Sr.Own (base : Nat) (w : World) (s : Sr) : Prop where
  ok : s.Ok w
  dm : w.ownsRow base 91 4 s.pe.dm.v s.pe.dm.n (mcs s.pe.dm.l)
  fr : w.ownsRow base 3 1 s.pe.fr.v s.pe.fr.n (mcs s.pe.fr.l)
  pp : w.ownsRow base 46 3 s.pe.pl.v s.pe.pl.n (mcs s.pe.pl.l)
  cp : w.ownsRow base 46 3 s.ca.pl.v s.ca.pl.n (mcs s.ca.pl.l)
  np : w.ownsRow base 46 3 s.no.pl.v s.no.pl.n (mcs s.no.pl.l)

theorem bl_mem {x : Sl} {b : Nat} : b ∈ x.bl ↔ x.v.ownBlock = some b := by simp [Sl.bl]
theorem bl_of {x : Sl} {b : Nat} : b ∈ x.bl ↔ ∃ y, x.a = some y ∧ y.block = b := by
  rw [bl_mem, Sl.v]
  cases h : x.a with
  | none => simp [Value.ownBlock]
  | some y => simp [Value.ownBlock]
theorem mem_wb {e : Ps} {b : Nat} : b ∈ wb e ↔ b = e.g ∨ ∃ x ∈ wos e.s, b ∈ x.bl := by
  rw [wb, List.mem_cons, List.mem_flatMap]
theorem own_blk {w : World} {base T m : Nat} {x : Sl} (h : w.ownsRow base T m x.v x.n (mcs x.l)) {b : Nat} (hb : b ∈ x.bl) : base ≤ b ∧ b < w.heap.size := h.lt b (bl_mem.1 hb)
theorem own_far {w w' : World} {base T m : Nat} {x : Sl} (h : w.ownsRow base T m x.v x.n (mcs x.l)) {X : List Nat} (hk : Kp X w w') (hX : ∀ b ∈ x.bl, b ∉ X) : w'.ownsRow base T m x.v x.n (mcs x.l) :=
  hk.row h (fun k hk => hX k (bl_mem.2 hk))
theorem rd_far {w w' : World} {m : Nat} {x : Sl} (h : RdM m w x.a x.n x.c x.l) {X : List Nat} (hk : Kp X w w') (hX : ∀ b ∈ X, x.Frb b) : RdM m w' x.a x.n x.c x.l :=
  h.kp hk (fun y e n hm => hX _ hm y e n rfl)
theorem rd_farw {w w' : World} {m : Nat} {x : Sl} (h : RdM m w x.a x.n x.c x.l) {X : List Nat} (hk : Kp X w w') (hX : ∀ b ∈ x.bl, b ∉ X) : RdM m w' x.a x.n x.c x.l :=
  h.kp hk (fun y e _ hm => hX _ (bl_of.2 ⟨y, e, rfl⟩) hm)
theorem far_old {w : World} {m : Nat} {x : Sl} (h : RdM m w x.a x.n x.c x.l) {b : Nat} (hb : w.heap.size ≤ b) : x.Frb b := rdm_off h hb
/-- A surface's rows stay where none of its blocks is written. -/
theorem Sr.Own.kp0 {base : Nat} {w w' : World} {s : Sr} (h : s.Own base w) {X : List Nat} (hk : Kp X w w') (hw : ∀ x ∈ wos s, ∀ b ∈ x.bl, b ∉ X) (hR : ∀ z ∈ ros s, ∀ b ∈ X, z.Frb b) : s.Own base w' := by
  refine ⟨⟨⟨?_, ?_, ?_, ?_, ?_⟩, ⟨?_, ?_, ?_, ?_, ?_⟩, ⟨?_, ?_, ?_, ?_, ?_⟩⟩, ?_, ?_, ?_, ?_, ?_⟩
  · exact rd_farw h.ok.pe.dm hk (hw _ (by simp [wos]))
  · exact rd_farw h.ok.pe.fr hk (hw _ (by simp [wos]))
  · exact rd_far h.ok.pe.rg hk (hR _ (by simp [ros]))
  · exact rd_far h.ok.pe.od hk (hR _ (by simp [ros]))
  · exact rd_farw h.ok.pe.pl hk (hw _ (by simp [wos]))
  · exact rd_far h.ok.ca.dm hk (hR _ (by simp [ros]))
  · exact rd_far h.ok.ca.fr hk (hR _ (by simp [ros]))
  · exact rd_far h.ok.ca.rg hk (hR _ (by simp [ros]))
  · exact rd_far h.ok.ca.od hk (hR _ (by simp [ros]))
  · exact rd_farw h.ok.ca.pl hk (hw _ (by simp [wos]))
  · exact rd_far h.ok.no.dm hk (hR _ (by simp [ros]))
  · exact rd_far h.ok.no.fr hk (hR _ (by simp [ros]))
  · exact rd_far h.ok.no.rg hk (hR _ (by simp [ros]))
  · exact rd_far h.ok.no.od hk (hR _ (by simp [ros]))
  · exact rd_farw h.ok.no.pl hk (hw _ (by simp [wos]))
  · exact own_far h.dm hk (hw _ (by simp [wos]))
  · exact own_far h.fr hk (hw _ (by simp [wos]))
  · exact own_far h.pp hk (hw _ (by simp [wos]))
  · exact own_far h.cp hk (hw _ (by simp [wos]))
  · exact own_far h.np hk (hw _ (by simp [wos]))
theorem Sr.Own.kp {base : Nat} {w w' : World} {e : Ps} (h : e.s.Own base w) {X : List Nat} (hk : Kp X w w') (hX : ∀ b ∈ wb e, b ∉ X) (hR : ∀ z ∈ ros e.s, ∀ b ∈ X, z.Frb b) : e.s.Own base w' :=
  h.kp0 hk (fun x hx b hb => hX b (mem_wb.2 (.inr ⟨x, hx, hb⟩))) hR
/-- What is only read lies ahead of the heap's end. -/
theorem Sr.Own.ros {base : Nat} {w : World} {s : Sr} (h : s.Own base w) {z : Sl} (hz : z ∈ ros s) {b : Nat} (hb : w.heap.size ≤ b) : z.Frb b := by
  simp only [Proofs.YtdgknofpkafppaaDoor.ros, List.mem_cons, List.not_mem_nil, or_false] at hz
  rcases hz with rfl | rfl | rfl | rfl | rfl | rfl | rfl | rfl | rfl | rfl
  · exact far_old h.ok.pe.rg hb
  · exact far_old h.ok.pe.od hb
  · exact far_old h.ok.ca.dm hb
  · exact far_old h.ok.ca.fr hb
  · exact far_old h.ok.ca.rg hb
  · exact far_old h.ok.ca.od hb
  · exact far_old h.ok.no.dm hb
  · exact far_old h.ok.no.fr hb
  · exact far_old h.ok.no.rg hb
  · exact far_old h.ok.no.od hb
theorem Sr.Own.wos {base : Nat} {w : World} {s : Sr} (h : s.Own base w) {z : Sl} (hz : z ∈ wos s) {b : Nat} (hb : b ∈ z.bl) : base ≤ b ∧ b < w.heap.size := by
  simp only [Proofs.YtdgknofpkafppaaDoor.wos, List.mem_cons, List.not_mem_nil, or_false] at hz
  rcases hz with rfl | rfl | rfl | rfl | rfl
  · exact own_blk h.dm hb
  · exact own_blk h.fr hb
  · exact own_blk h.pp hb
  · exact own_blk h.cp hb
  · exact own_blk h.np hb

/-- What is written in place lies apart from each other. -/
structure Sep (e : Ps) : Prop where
  g : ∀ x ∈ wos e.s, e.g ∉ x.bl
  two : ∀ (i j : Nat) x y b, (wos e.s)[i]? = some x → (wos e.s)[j]? = some y → b ∈ x.bl → b ∈ y.bl → i = j
/-- The program's forest: its struct in the block p, its map m, its surfaces L. -/
structure Pf (base : Nat) (w : World) (p m : Nat) (L : Po) : Prop where
  lop : base ≤ p
  lom : base ≤ m
  ne : p ≠ m
  obj : w.heap[p]? = some (.cells #[.map (some m)] 54 (0, 0))
  own : ∃ D, w.ownsMap Tryd.prog 3 ptR m L.length D ∧ Rp ptd none D (pmp L)
  nd : (keys L).Nodup
  srf : ∀ x e, gt L x = some e → w.heap[e.g]? = some (.cells (pcs e.s).toArray 58 (0, 0))
  rows : ∀ x e, gt L x = some e → e.s.Own base w
  sep : ∀ x e, gt L x = some e → Sep e ∧ ∀ b ∈ wb e, base ≤ b ∧ b ≠ p ∧ b ≠ m ∧ ∀ z ∈ ros e.s, z.Frb b
  sep2 : ∀ x y e e', gt L x = some e → gt L y = some e' → x ≠ y → ∀ b ∈ wb e, b ∉ wb e' ∧ ∀ z ∈ ros e'.s, z.Frb b
  far : ∀ x e, gt L x = some e → ∀ z ∈ ros e.s, z.Frb p ∧ z.Frb m

theorem pown_kp {R : Value → Option (DataW Unit × List MemPlace)} {X : List Nat} {w w' : World} {b n : Nat} {D : DataW Unit} (h : w.ownsMap Tryd.prog 3 R b n D) (hk : Kp X w w') (hX : b ∉ X) : w'.ownsMap Tryd.prog 3 R b n D := by
  obtain ⟨es, clock, hb, F, hs, hD⟩ := h
  exact ⟨es, clock, hk.var hb hX, F, hs, hD⟩
variable {base : Nat} {w w' : World} {p m : Nat} {L : Po}
/-- The blocks that calls may write. -/
def wbs (L : Po) : List Nat := L.flatMap fun e => wb e.2
theorem mem_wbs (hn : (keys L).Nodup) {b : Nat} : b ∈ wbs L ↔ ∃ x e, gt L x = some e ∧ b ∈ wb e := by
  rw [wbs, List.mem_flatMap]
  constructor
  · rintro ⟨e, he, hb⟩
    exact ⟨e.1, e.2, gt_of_mem hn he, hb⟩
  · rintro ⟨x, e, he, hb⟩
    exact ⟨(x, e), gt_mem he, hb⟩
theorem Pf.lt (h : Pf base w p m L) : p < w.heap.size ∧ m < w.heap.size := by
  obtain ⟨D, h1, _⟩ := h.own
  exact ⟨(Array.getElem?_eq_some_iff.1 h.obj).1, h1.lt⟩
theorem Pf.wlt (h : Pf base w p m L) {x : Int} {e : Ps} (he : gt L x = some e) {b : Nat} (hb : b ∈ wb e) : base ≤ b ∧ b < w.heap.size := by
  refine ⟨((h.sep x e he).2 b hb).1, ?_⟩
  rcases mem_wb.1 hb with rfl | ⟨z, hz, hb⟩
  · exact (Array.getElem?_eq_some_iff.1 (h.srf x e he)).1
  · exact ((h.rows x e he).wos hz hb).2
/-- It stays where none of its blocks is written. -/
theorem Pf.kept (h : Pf base w p m L) {X : List Nat} (hk : Kp X w w') (hp : p ∉ X) (hm : m ∉ X) (hw : ∀ x e, gt L x = some e → (∀ b ∈ wb e, b ∉ X) ∧ ∀ z ∈ ros e.s, ∀ b ∈ X, z.Frb b) : Pf base w' p m L := by
  obtain ⟨D, h1, h2⟩ := h.own
  exact ⟨h.lop, h.lom, h.ne, hk.var h.obj hp, ⟨D, pown_kp h1 hk hm, h2⟩, h.nd, fun x e he => hk.var (h.srf x e he) ((hw x e he).1 e.g (mem_wb.2 (.inl rfl))), fun x e he => (h.rows x e he).kp hk (hw x e he).1 (hw x e he).2, h.sep, h.sep2, h.far⟩
theorem Pf.on (h : Pf base w p m L) (hb : Below w.heap.size w w') : Pf base w' p m L := h.kept (kp_of_below hb []) (by simp) (by simp) (fun _ _ _ => ⟨by simp, by simp⟩)
theorem Pf.c0 (h : Pf base w p m L) : w.cell? ⟨p, 0, none⟩ = some (.map (some m)) := by rw [Lib.cell_of_heap h.obj]; rfl
theorem Pf.cell (h : Pf base w p m L) {x : Int} {e : Ps} (he : gt L x = some e) {j : Nat} : w.cell? ⟨e.g, j, none⟩ = (pcs e.s)[j]? := by
  rw [cell_of_row w e.g j _ _ _ (h.srf x e he)]
  simp
theorem Pf.fz (h : Pf base w p m L) {x : Int} {e : Ps} (he : gt L x = some e) (j : Nat) : w.frozen? ⟨e.g, j, none⟩ = false := by
  simp [World.frozen?, h.srf x e he]
theorem Pf.ne_g (h : Pf base w p m L) {x y : Int} {e e' : Ps} (he : gt L x = some e) (he' : gt L y = some e') (hne : x ≠ y) : e.g ≠ e'.g := fun hg =>
  (h.sep2 x y e e' he he' hne e.g (mem_wb.2 (.inl rfl))).1 (mem_wb.2 (.inl hg))
/-- A surface turned: its own blocks were written, or new ones are in their place. -/
theorem Pf.turn (h : Pf base w p m L) {id : Int} {e : Ps} (he : gt L id = some e) {X : List Nat} (hk : Kp X w w') (hX : ∀ b ∈ X, b ∈ wb e) (s' : Sr)
    (hobj : w'.heap[e.g]? = some (.cells (pcs s').toArray 58 (0, 0))) (hown : s'.Own base w')
    (hnd : Sep ⟨e.g, s'⟩) (hw : ∀ b ∈ wb ⟨e.g, s'⟩, b ∈ wb e ∨ w.heap.size ≤ b)
    (hr : ∀ z ∈ ros s', (∀ b ∈ wb ⟨e.g, s'⟩, z.Frb b) ∧ (z ∈ ros e.s ∨ ∀ b, b < w.heap.size → z.Frb b)) : Pf base w' p m (st L id ⟨e.g, s'⟩) := by
  obtain ⟨hlp, hlm⟩ := h.lt
  have hbp : ∀ b ∈ X, b ≠ p ∧ b ≠ m := fun b hx => ⟨((h.sep id e he).2 b (hX b hx)).2.1, ((h.sep id e he).2 b (hX b hx)).2.2.1⟩
  have hgt : ∀ x e', gt (st L id ⟨e.g, s'⟩) x = some e' → (x = id ∧ e' = ⟨e.g, s'⟩) ∨ (x ≠ id ∧ gt L x = some e') := fun x e' hx => by
    rw [gt_st] at hx
    split at hx
    · rename_i hxi
      rw [he] at hx
      exact .inl ⟨hxi, by cases hx; rfl⟩
    · rename_i hxi
      exact .inr ⟨hxi, hx⟩
  have hold : ∀ x e', x ≠ id → gt L x = some e' → (∀ b ∈ wb e', b ∉ X) ∧ ∀ z ∈ ros e'.s, ∀ b ∈ X, z.Frb b := fun x e' hx he' =>
    ⟨fun b hb hm => (h.sep2 x id e' e he' he hx b hb).1 (hX b hm), fun z hz b hb => (h.sep2 id x e e' he he' (fun q => hx q.symm) b (hX b hb)).2 z hz⟩
  obtain ⟨D, h1, h2⟩ := h.own
  refine ⟨h.lop, h.lom, h.ne, hk.var h.obj (fun hm => (hbp p hm).1 rfl), ⟨D, ?_, ?_⟩, ?_, fun x e' hx => ?_, fun x e' hx => ?_, fun x e' hx => ?_, fun x y e1 e2 h1 h2 hne b hb1 => ?_, fun x e' hx z hz => ?_⟩
  · rw [show (st L id ⟨e.g, s'⟩).length = L.length by simp [st]]
    exact pown_kp h1 hk (fun hm => (hbp m hm).2 rfl)
  · rw [pmp_st (e' := ⟨e.g, s'⟩) h.nd he rfl]
    exact h2
  · rw [keys_st]
    exact h.nd
  · rcases hgt x e' hx with ⟨rfl, rfl⟩ | ⟨hne, hx⟩
    · exact hobj
    · exact hk.var (h.srf x e' hx) ((hold x e' hne hx).1 e'.g (mem_wb.2 (.inl rfl)))
  · rcases hgt x e' hx with ⟨rfl, rfl⟩ | ⟨hne, hx⟩
    · exact hown
    · exact (h.rows x e' hx).kp hk (hold x e' hne hx).1 (hold x e' hne hx).2
  · rcases hgt x e' hx with ⟨rfl, rfl⟩ | ⟨hne, hx⟩
    · refine ⟨hnd, fun b hb => ?_⟩
      refine ⟨?_, ?_, ?_, fun z hz => (hr z hz).1 b hb⟩
      · rcases hw b hb with h1 | h1
        · exact ((h.sep x e he).2 b h1).1
        · have := h.lop
          omega
      · rcases hw b hb with h1 | h1
        · exact ((h.sep x e he).2 b h1).2.1
        · omega
      · rcases hw b hb with h1 | h1
        · exact ((h.sep x e he).2 b h1).2.2.1
        · omega
    · exact h.sep x e' hx
  · rcases hgt x e1 h1 with ⟨rfl, rfl⟩ | ⟨hne1, g1⟩
    · rcases hgt y e2 h2 with ⟨rfl, _⟩ | ⟨hne2, g2⟩
      · exact absurd rfl hne
      · rcases hw b hb1 with hb' | hb'
        · exact h.sep2 x y e e2 he g2 hne b hb'
        · refine ⟨fun hm => ?_, fun z hz => (h.rows y e2 g2).ros hz hb'⟩
          have := (h.wlt g2 hm).2
          omega
    · rcases hgt y e2 h2 with ⟨rfl, rfl⟩ | ⟨hne2, g2⟩
      · have hq := h.sep2 x y e1 e g1 he hne b hb1
        refine ⟨fun hm => ?_, fun z hz => ?_⟩
        · rcases hw b hm with hb' | hb'
          · exact hq.1 hb'
          · have := (h.wlt g1 hb1).2
            omega
        · rcases (hr z hz).2 with h' | h'
          · exact hq.2 z h'
          · exact h' b (h.wlt g1 hb1).2
      · exact h.sep2 x y e1 e2 g1 g2 hne b hb1
  · rcases hgt x e' hx with ⟨rfl, rfl⟩ | ⟨hne, hx⟩
    · rcases (hr z hz).2 with h' | h'
      · exact h.far x e he z h'
      · exact ⟨h' p hlp, h' m hlm⟩
    · exact h.far x e' hx z hz

/-- No row of it that is only read lies in the block b. -/
def Ofr (L : Po) (b : Nat) : Prop := ∀ x e, gt L x = some e → ∀ z ∈ ros e.s, z.Frb b
/-- What a call leaves: the forest, turned to F; only its own blocks were written, others are new. -/
structure PfR (base : Nat) (w : World) (p m : Nat) (L : Po) (F : Fo) (w' : World) (L' : Po) : Prop where
  pf : Pf base w' p m L'
  ab : pab L' = F
  kp : Kp (m :: wbs L) w w'
  new : ∀ b ∈ wbs L', b ∈ wbs L ∨ w.heap.size ≤ b
  ofr : ∀ b, b < w.heap.size → Ofr L b → Ofr L' b
theorem PfR.refl (h : Pf base w p m L) (hb : Below w.heap.size w w') : PfR base w p m L (pab L) w' L := ⟨h.on hb, rfl, kp_of_below hb _, fun _ hb => .inl hb, fun _ _ h => h⟩
theorem PfR.trans {L' L'' : Po} {F F' : Fo} {w'' : World} (h : PfR base w p m L F w' L') (h' : PfR base w' p m L' F' w'' L'') : PfR base w p m L F' w'' L'' :=
  ⟨h'.pf, h'.ab, h.kp.trans h'.kp (fun b hb hlt => by
    rcases List.mem_cons.1 hb with rfl | hb
    · exact List.mem_cons_self
    · rcases h.new b hb with h1 | h1
      · exact List.mem_cons_of_mem _ h1
      · omega), fun b hb => by
    rcases h'.new b hb with h1 | h1
    · exact h.new b h1
    · exact .inr (Nat.le_trans h.kp.size h1), fun b hb ho => h'.ofr b (Nat.lt_of_lt_of_le hb h.kp.size) (h.ofr b hb ho)⟩
theorem wbs_st (hn : (keys L).Nodup) {id : Int} {e : Ps} (he : gt L id = some e) (e' : Ps) {N : Nat} (hw : ∀ b ∈ wb e', b ∈ wb e ∨ N ≤ b) : ∀ b ∈ wbs (st L id e'), b ∈ wbs L ∨ N ≤ b := fun b hb => by
  obtain ⟨x, e1, h1, h2⟩ := (mem_wbs (by rw [keys_st]; exact hn)).1 hb
  rw [gt_st] at h1
  split at h1
  · rw [he] at h1
    cases h1
    rcases hw b h2 with h3 | h3
    · exact .inl ((mem_wbs hn).2 ⟨id, e, he, h3⟩)
    · exact .inr h3
  · exact .inl ((mem_wbs hn).2 ⟨x, e1, h1, h2⟩)
theorem wb_wbs (h : Pf base w p m L) {x : Int} {e : Ps} (he : gt L x = some e) {b : Nat} (hb : b ∈ wb e) : b ∈ wbs L := (mem_wbs h.nd).2 ⟨x, e, he, hb⟩

/-- A slice that is written in place, behind a call: its old block, or, if it is the k-th, a new one. -/
def Old (N k i : Nat) (x x' : Sl) : Prop := ∀ b ∈ x'.bl, b ∈ x.bl ∨ (N ≤ b ∧ i = k)
theorem Old.same {N k i : Nat} {x : Sl} : Old N k i x x := fun _ h => .inl h
theorem Old.nil {N k i : Nat} {x x' : Sl} (h : x'.a = none) : Old N k i x x' := fun b hb => by
  obtain ⟨y, hy, _⟩ := bl_of.1 hb
  rw [h] at hy
  cases hy
theorem Old.fresh {N k : Nat} {x x' : Sl} (h : ∀ b ∈ x'.bl, b ∈ x.bl ∨ N ≤ b) : Old N k k x x' := fun b hb => (h b hb).imp id fun h => ⟨h, rfl⟩
/-- One that is only read: the same, or new, and apart from X. -/
def Rold (N : Nat) (X : List Nat) (z z' : Sl) : Prop := z' = z ∨ ∀ y, z'.a = some y → 0 < z'.n → N ≤ y.block ∧ y.block ∉ X
theorem Rold.same {N : Nat} {X : List Nat} {z : Sl} : Rold N X z z := .inl rfl
theorem Rold.nil {N : Nat} {X : List Nat} {z z' : Sl} (h : z'.a = none) : Rold N X z z' := .inr fun y hy => by rw [h] at hy; cases hy
/-- The k-th of those that are written. -/
def wk (k : Nat) (s : Sr) : List Nat := ((wos s)[k]?.map Sl.bl).getD []
/-- What a call may turn of a surface's slices. -/
structure Chg (N k : Nat) (s s' : Sr) : Prop where
  w0 : Old N k 0 s.pe.dm s'.pe.dm
  w1 : Old N k 1 s.pe.fr s'.pe.fr
  w2 : Old N k 2 s.pe.pl s'.pe.pl
  w3 : Old N k 3 s.ca.pl s'.ca.pl
  w4 : Old N k 4 s.no.pl s'.no.pl
  r0 : Rold N (wk k s') s.pe.rg s'.pe.rg
  r1 : Rold N (wk k s') s.pe.od s'.pe.od
  r2 : Rold N (wk k s') s.ca.dm s'.ca.dm
  r3 : Rold N (wk k s') s.ca.fr s'.ca.fr
  r4 : Rold N (wk k s') s.ca.rg s'.ca.rg
  r5 : Rold N (wk k s') s.ca.od s'.ca.od
  r6 : Rold N (wk k s') s.no.dm s'.no.dm
  r7 : Rold N (wk k s') s.no.fr s'.no.fr
  r8 : Rold N (wk k s') s.no.rg s'.no.rg
  r9 : Rold N (wk k s') s.no.od s'.no.od
theorem Chg.wr {N k : Nat} {s s' : Sr} (h : Chg N k s s') {i : Nat} {x : Sl} (hx : (wos s')[i]? = some x) {b : Nat} (hb : b ∈ x.bl) : (∃ y, (wos s)[i]? = some y ∧ b ∈ y.bl) ∨ (N ≤ b ∧ i = k) := by
  match i, hx with
  | 0, hx => cases hx; exact (h.w0 b hb).imp (fun h => ⟨_, rfl, h⟩) id
  | 1, hx => cases hx; exact (h.w1 b hb).imp (fun h => ⟨_, rfl, h⟩) id
  | 2, hx => cases hx; exact (h.w2 b hb).imp (fun h => ⟨_, rfl, h⟩) id
  | 3, hx => cases hx; exact (h.w3 b hb).imp (fun h => ⟨_, rfl, h⟩) id
  | 4, hx => cases hx; exact (h.w4 b hb).imp (fun h => ⟨_, rfl, h⟩) id
  | i + 5, hx => simp [wos] at hx
theorem Chg.rd {N k : Nat} {s s' : Sr} (h : Chg N k s s') {z : Sl} (hz : z ∈ ros s') : z ∈ ros s ∨ ∀ y, z.a = some y → 0 < z.n → N ≤ y.block ∧ y.block ∉ wk k s' := by
  simp only [ros, List.mem_cons, List.not_mem_nil, or_false] at hz
  rcases hz with rfl | rfl | rfl | rfl | rfl | rfl | rfl | rfl | rfl | rfl
  · exact h.r0.imp (fun e => by rw [e]; simp [ros]) id
  · exact h.r1.imp (fun e => by rw [e]; simp [ros]) id
  · exact h.r2.imp (fun e => by rw [e]; simp [ros]) id
  · exact h.r3.imp (fun e => by rw [e]; simp [ros]) id
  · exact h.r4.imp (fun e => by rw [e]; simp [ros]) id
  · exact h.r5.imp (fun e => by rw [e]; simp [ros]) id
  · exact h.r6.imp (fun e => by rw [e]; simp [ros]) id
  · exact h.r7.imp (fun e => by rw [e]; simp [ros]) id
  · exact h.r8.imp (fun e => by rw [e]; simp [ros]) id
  · exact h.r9.imp (fun e => by rw [e]; simp [ros]) id
/-- Written into the surface's block. w0: where the call began. -/
theorem Pf.put {w0 : World} (h : Pf base w0 p m L) {id : Int} {e : Ps} (he : gt L id = some e) {X : List Nat} (hk0 : Kp X w0 w) (hX : ∀ b ∈ X, b ∈ wb e) (hk : Kp [e.g] w w') {s' : Sr}
    (hB : Bk w' e.g 58 (pcs s').toArray) (hown : s'.Own base w) {k : Nat} (hc : Chg w0.heap.size k e.s s') : PfR base w0 p m L (pab (st L id ⟨e.g, s'⟩)) w' (st L id ⟨e.g, s'⟩) := by
  obtain ⟨hsep, hb⟩ := h.sep id e he
  have hlt := fun b hb => h.wlt he (b := b) hb
  have hgm : e.g ∈ wb e := mem_wb.2 (.inl rfl)
  have hw : ∀ b ∈ wb ⟨e.g, s'⟩, b ∈ wb e ∨ w0.heap.size ≤ b := fun b hb => by
    rcases mem_wb.1 hb with rfl | ⟨x, hx, hb⟩
    · exact .inl hgm
    · obtain ⟨i, hi⟩ := List.getElem?_of_mem hx
      rcases hc.wr hi hb with ⟨y, hy, hb⟩ | ⟨hb, _⟩
      · exact .inl (mem_wb.2 (.inr ⟨y, List.mem_of_getElem? hy, hb⟩))
      · exact .inr hb
  have hnd : Sep ⟨e.g, s'⟩ := by
    refine ⟨fun x hx hm => ?_, fun i j x y b hx hy hbx hby => ?_⟩
    · obtain ⟨i, hi⟩ := List.getElem?_of_mem hx
      rcases hc.wr hi hm with ⟨y, hy, hb⟩ | ⟨hb, _⟩
      · exact hsep.g y (List.mem_of_getElem? hy) hb
      · have := (hlt e.g hgm).2
        simp only at hb
        omega
    · rcases hc.wr hx hbx with ⟨x', hx', hbx'⟩ | ⟨h1, h2⟩
      · rcases hc.wr hy hby with ⟨y', hy', hby'⟩ | ⟨h3, h4⟩
        · exact hsep.two i j x' y' b hx' hy' hbx' hby'
        · have := (hlt b (mem_wb.2 (.inr ⟨x', List.mem_of_getElem? hx', hbx'⟩))).2
          omega
      · rcases hc.wr hy hby with ⟨y', hy', hby'⟩ | ⟨h3, h4⟩
        · have := (hlt b (mem_wb.2 (.inr ⟨y', List.mem_of_getElem? hy', hby'⟩))).2
          omega
        · omega
  have hr : ∀ z ∈ ros s', (∀ b ∈ wb ⟨e.g, s'⟩, z.Frb b) ∧ (z ∈ ros e.s ∨ ∀ b, b < w0.heap.size → z.Frb b) := fun z hz => by
    rcases hc.rd hz with h1 | h1
    · refine ⟨fun b hb' => ?_, .inl h1⟩
      rcases hw b hb' with h2 | h2
      · exact (hb b h2).2.2.2 z h1
      · exact (h.rows id e he).ros h1 h2
    · refine ⟨fun b hb' => ?_, .inr fun b hb' y hy hn e1 => ?_⟩
      · intro y hy hn e1
        obtain ⟨h2, h3⟩ := h1 y hy hn
        rcases mem_wb.1 hb' with rfl | ⟨x, hx, hbx⟩
        · have := (hlt e.g hgm).2
          simp only at e1
          omega
        · obtain ⟨i, hi⟩ := List.getElem?_of_mem hx
          rcases hc.wr hi hbx with ⟨y', hy', hb4⟩ | ⟨h4, h5⟩
          · have := (hlt b (mem_wb.2 (.inr ⟨y', List.mem_of_getElem? hy', hb4⟩))).2
            omega
          · subst h5
            refine h3 ?_
            simp only at hi
            rw [wk, hi, e1]
            exact hbx
      · have := (h1 y hy hn).1
        omega
  have hk1 : Kp (e.g :: X) w0 w' := (hk0.mono (fun b hb _ => List.mem_cons_of_mem _ hb)).trans hk (fun b hb _ => by simp only [List.mem_cons, List.not_mem_nil, or_false] at hb; rw [hb]; exact List.mem_cons_self)
  have hX1 : ∀ b ∈ e.g :: X, b ∈ wb e := fun b hb => by
    rcases List.mem_cons.1 hb with rfl | hb
    · exact hgm
    · exact hX b hb
  have hown' : s'.Own base w' := by
    refine hown.kp0 hk (fun x hx b hb hm => ?_) (fun z hz b hb => ?_)
    · simp only [List.mem_cons, List.not_mem_nil, or_false] at hm
      rw [hm] at hb
      exact hnd.g x hx hb
    · simp only [List.mem_cons, List.not_mem_nil, or_false] at hb
      rw [hb]
      exact (hr z hz).1 e.g (mem_wb.2 (.inl rfl))
  exact ⟨h.turn he hk1 hX1 s' hB.obj hown' hnd hw hr, rfl, hk1.mono (fun b hb _ => List.mem_cons_of_mem _ (wb_wbs h he (hX1 b hb))), wbs_st h.nd he ⟨e.g, s'⟩ hw, fun b hb ho x e1 h1 z hz => by
    rw [gt_st] at h1
    split at h1
    · rw [he] at h1
      cases h1
      rcases (hr z hz).2 with h2 | h2
      · exact ho id e he z h2
      · exact h2 b hb
    · exact ho x e1 h1 z hz⟩
end Go.Proofs.YtdgknofpkafppaaDoor

/- The program's listed errors: what the row's list of package-level variables gives a walk (each variable holds a pointer of its own to an errors.errorString), and errors.Is on two of them; no condition but that list. -/
namespace Go.Proofs.YtdgknofpkafppaaDoor
open Go Go.RowKit

/-- The variable g holds a pointer to the error at a. -/
def Sent (w : World) (g : Nat) (a : Addr) : Prop := w.cell? ⟨g, 0, none⟩ = some (.iface 151 (.pointer (some a))) ∧ ∃ c t, w.heap[a.block]? = some (.cells c t (0, 0))

/-- The variables gs hold pointers to the errors at es, each another one. -/
structure Errs (w : World) (gs : List Nat) (es : List Addr) : Prop where
  len : es.length = gs.length
  nodup : es.Nodup
  each : ∀ (i : Nat) (g : Nat) (a : Addr), gs[i]? = some g → es[i]? = some a → Sent w g a

theorem Sent.below {w w' : World} {g : Nat} {a : Addr} (h : Sent w g a) (hb : Below w.heap.size w w') : Sent w' g a := by
  obtain ⟨h1, c, t, h2⟩ := h
  refine ⟨?_, c, t, ?_⟩
  · rw [hb.cell (World.block_lt_of_cell? w _ h1)]
    exact h1
  · rw [hb.block _ (Array.getElem?_eq_some_iff.1 h2).1]
    exact h2

theorem Errs.below {w w' : World} {gs : List Nat} {es : List Addr} (h : Errs w gs es) (hb : Below w.heap.size w w') : Errs w' gs es :=
  ⟨h.len, h.nodup, fun i g a hg ha => (h.each i g a hg ha).below hb⟩

theorem row_one (a : Addr) : MemPlace.row a 1 = [.cell a.block a.off] := by simp [MemPlace.row]

theorem sents_of_laid {P : Program} {W : World} {nm : String} {ti tp te ts : TypeId} {ms : Array (String × TypeId)} {f : Field}
    (hi : P.underlying ti = some (.interface ms)) (hrow : ∀ u, P.typeName? 3 u = some nm → u = tp)
    (hp : P.underlying tp = some (.pointer te)) (he : P.underlying te = some (.struct #[f])) (hft : f.type = ts) (hfo : f.offset = 0) (hs : P.underlying ts = some .string) (hc : P.cellsOf te = 1) (hcs : P.cellsOf ts = 1) :
    ∀ (L : List (String × DataW Unit × Nat)) (ps : List MemPlace), (∀ x ∈ L, P.globalNamed x.1 = some x.2.2 ∧ (P.globals[x.2.2]?).map (·.type) = some ti ∧ ∃ t, x.2.1 = .iface nm (.ptr (.agg [.lit (.string t)]))) →
      DataW.LaidVars P W (L.map fun x => (x.1, x.2.1)) ps →
      (∀ b off, MemPlace.cell b off ∈ ps → (∃ c t, W.heap[b]? = some (.cells c t (0, 0))) ∧ ∀ u v, W.cell? ⟨b, off, none⟩ = some (.iface u v) → Value.okWide P W .any 0 u v) →
      ∃ es : List Addr, es.length = L.length ∧ List.Sublist (es.map fun a => MemPlace.cell a.block a.off) ps ∧
        ∀ (i : Nat) (g : Nat) (a : Addr), (L.map fun x => x.2.2)[i]? = some g → es[i]? = some a → W.cell? ⟨g, 0, none⟩ = some (.iface tp (.pointer (some a))) ∧ ∃ c t, W.heap[a.block]? = some (.cells c t (0, 0)) := by
  intro L
  induction L with
  | nil =>
    intro ps _ _ _
    exact ⟨[], rfl, List.nil_sublist _, fun i g a h => by simp at h⟩
  | cons x L ih =>
    intro ps hL hv hrows
    obtain ⟨n, d, g0⟩ := x
    obtain ⟨hg0, ht0, text, hd⟩ := hL _ (List.mem_cons_self ..)
    obtain ⟨g, t, cs, fuel, p, q, hg, ht, hvar, htrod, hq, rfl⟩ := hv
    simp only at hg0 ht0 hd
    obtain rfl := Option.some.inj (hg0.symm.trans hg)
    obtain rfl := Option.some.inj (ht0.symm.trans ht)
    obtain ⟨es, h1, h2, h3⟩ := ih q (fun x hx => hL x (List.mem_cons_of_mem _ hx)) hq (fun b off hm => hrows b off (List.mem_append_right _ hm))
    obtain ⟨l0⟩ := cs
    have ok0 : ∀ u v, l0 = [.iface u v] → Value.okWide P W .any 0 u v := fun u v e => by
      subst e
      exact (hrows g0 0 (by simp [MemPlace.row])).2 u v (by simpa using World.var?_cell hg hvar 0)
    subst hd
    obtain ⟨a0, s0, rfl, hc0, hs0, hz0, rfl⟩ := errorString_of_trod hi hrow hp he hft hfo hs hc hcs htrod ok0
    refine ⟨a0 :: es, by simp [h1], ?_, ?_⟩
    · rw [List.map_cons, row_one a0, List.append_assoc]
      exact List.Sublist.trans (List.Sublist.cons_cons _ h2) (List.sublist_append_right _ _)
    · intro i g a hgi hai
      cases i with
      | zero =>
        simp only [List.map_cons, List.getElem?_cons_zero, Option.some.injEq] at hgi hai
        subst hgi hai
        refine ⟨by simpa using World.var?_cell hg hvar 0, ?_⟩
        exact (hrows a0.block a0.off (by simp [MemPlace.row])).1
      | succ i =>
        simp only [List.map_cons, List.getElem?_cons_succ] at hgi hai
        exact h3 i g a hgi hai

theorem nodup_of_places {es : List Addr} {ps : List MemPlace} (h : ps.Nodup) (hs : List.Sublist (es.map fun a => MemPlace.cell a.block a.off) ps) : es.Nodup := by
  have h2 := List.Nodup.sublist hs h
  clear h hs
  induction es with
  | nil => exact List.nodup_nil
  | cons a es ih =>
    rw [List.map_cons, List.nodup_cons] at h2
    rw [List.nodup_cons]
    exact ⟨fun hm => h2.1 (List.mem_map_of_mem (f := fun a : Addr => MemPlace.cell a.block a.off) hm), ih h2.2⟩

theorem cellsES : Tryd.prog.cellsOf 176 = 1 := by kernel_rfl
theorem cellsStr : Tryd.prog.cellsOf 9 = 1 := by kernel_rfl
theorem star : "*" ++ "errors.errorString" = "*errors.errorString" := by decide
theorem rowES (u : TypeId) (h : Tryd.prog.typeName? 3 u = some "*errors.errorString") : u = 151 :=
  typeName_ptr_named (nm := "errors.errorString") (by rw [star]; kernel_rfl) (by kernel_rfl) (by decide) u (by rw [star]; exact h)

/-- What the row's list gives. -/
theorem errs_of_laid (L : List (String × DataW Unit × Nat)) {W : World} (hL : ∀ x ∈ L, Tryd.prog.globalNamed x.1 = some x.2.2 ∧ (Tryd.prog.globals[x.2.2]?).map (·.type) = some 27 ∧ ∃ t, x.2.1 = .iface "*errors.errorString" (.ptr (.agg [.lit (.string t)])))
    (h : laidMet Tryd.prog (L.map fun x => (x.1, x.2.1)) W) : ∃ es, Errs W (L.map fun x => x.2.2) es := by
  obtain ⟨ps, hv, hnd, hrows⟩ := h
  obtain ⟨es, h1, h2, h3⟩ := sents_of_laid Tryd.underlying27 rowES Tryd.underlying151 Tryd.underlying176 rfl rfl Tryd.underlying9 cellsES cellsStr L ps hL hv hrows
  exact ⟨es, by rw [h1, List.length_map], nodup_of_places hnd h2, h3⟩

/-! errors.Is -/
theorem isTypeOf (v : Value) (w : World) : (Extern.ReflectliteType.typeOf #[.iface 151 v]).run Tryd.prog w = .ok (.iface 138 (.agg #[.pointer (some ⟨5, 151, none⟩)])) w := by kernel_rfl
theorem isComparable (w : World) : ((Extern.ReflectliteType.method fun t => do Extern.Rtype.noPackHeld "Comparable" t; (fun a => Value.bool a.comparable) <$> typeInfo t) #[.agg #[.pointer (some ⟨5, 151, none⟩)]]).run Tryd.prog w = .ok (.bool true) w := by kernel_rfl
theorem isMethodComparable (n : Nat) (v : Value) (w : World) : (Go.method (n + 1) 138 v "Comparable").run Tryd.prog w = .ok (119, v) w := by kernel_rfl
theorem isComp : (Tryd.prog.info? 151).map (·.comparable) = some true := by kernel_rfl
theorem isSize : (Tryd.prog.info? 176).map (·.size) = some 1 := by kernel_rfl
theorem noIsE (v : Value) (xT : TypeId) (w : World) : (Instr.typeAssert (.iface 151 v) xT 140 true).run Tryd.prog w = .ok (.tuple #[.nilIface, .bool false]) w := run_typeAssert_lacksB Tryd.underlying140 (by kernel_rfl) (by kernel_rfl) v xT w
theorem noUnwrapE (v : Value) (xT : TypeId) (w : World) : (Instr.typeAssert (.iface 151 v) xT 143 true).run Tryd.prog w = .ok (.tuple #[.nilIface, .bool false]) w := run_typeAssert_lacksB Tryd.underlying143 (by kernel_rfl) (by kernel_rfl) v xT w
theorem noUnwrapsE (v : Value) (xT : TypeId) (w : World) : (Instr.typeAssert (.iface 151 v) xT 145 true).run Tryd.prog w = .ok (.tuple #[.nilIface, .bool false]) w := run_typeAssert_lacksB Tryd.underlying145 (by kernel_rfl) (by kernel_rfl) v xT w

theorem is_same (a : Addr) (w : World) :
    Calls Tryd.prog 72 #[.iface 151 (.pointer (some a)), .iface 151 (.pointer (some a))] w fun e w' => e = .returned (.bool true) ∧ w' = w := by
  obtain ⟨i, hi, hcmp⟩ := Option.map_eq_some_iff.1 isComp
  obtain ⟨j, hj, hjs⟩ := Option.map_eq_some_iff.1 isSize
  have h8 := @run_callFunc_extern Tryd.prog 92 _ Extern.ReflectliteType.typeOf Tryd.func92 (by kernel_rfl) (by kernel_rfl) (by kernel_rfl) (by kernel_rfl)
  have h32 := @run_callFunc_extern Tryd.prog 119 _ (Extern.ReflectliteType.method fun t => do Extern.Rtype.noPackHeld "Comparable" t; pure (.bool (← typeInfo t).comparable)) Tryd.func119 (by kernel_rfl) (by kernel_rfl) (by kernel_rfl) (by kernel_rfl)
  have tT := isTypeOf
  have cT := isComparable
  have mR := isMethodComparable
  have heq := run_eql_iface_ptr_same (P := Tryd.prog) w a Tryd.underlying27 Tryd.underlying151 hi hcmp hj
  go_enter Tryd.func72, Tryd.ntmps72
  go_wp2
  refine wp_loop_rounds 1 ?_
  rw [rounds_succ]
  go_wp2
  go_ret
  exact ⟨rfl, rfl⟩

theorem is_other (a b : Addr) (ca cb : Array Value) (ta tb : TypeId) (w : World) (hne : a ≠ b) (ha : w.heap[a.block]? = some (.cells ca ta (0, 0))) (hb : w.heap[b.block]? = some (.cells cb tb (0, 0))) :
    Calls Tryd.prog 72 #[.iface 151 (.pointer (some a)), .iface 151 (.pointer (some b))] w fun e w' => e = .returned (.bool false) ∧ w' = w := by
  obtain ⟨i, hi, hcmp⟩ := Option.map_eq_some_iff.1 isComp
  obtain ⟨j, hj, hjs⟩ := Option.map_eq_some_iff.1 isSize
  have h8 := @run_callFunc_extern Tryd.prog 92 _ Extern.ReflectliteType.typeOf Tryd.func92 (by kernel_rfl) (by kernel_rfl) (by kernel_rfl) (by kernel_rfl)
  have h32 := @run_callFunc_extern Tryd.prog 119 _ (Extern.ReflectliteType.method fun t => do Extern.Rtype.noPackHeld "Comparable" t; pure (.bool (← typeInfo t).comparable)) Tryd.func119 (by kernel_rfl) (by kernel_rfl) (by kernel_rfl) (by kernel_rfl)
  have tT := isTypeOf
  have cT := isComparable
  have mR := isMethodComparable
  have nE := noIsE
  have uE := noUnwrapE
  have vE := noUnwrapsE
  have heq := run_eql_iface_ptr_other (P := Tryd.prog) w Tryd.underlying27 Tryd.underlying151 hi hcmp hj (by rw [hjs]; decide) hne ha hb
  go_enter Tryd.func72, Tryd.ntmps72
  go_wp2
  refine wp_loop_rounds 1 ?_
  rw [rounds_succ]
  go_wp2
  go_ret
  exact ⟨rfl, rfl⟩

/-- The errors by their numbers: 0 is none. -/
def erv (es : List Addr) : Nat → Value
  | 0 => .nilIface
  | k + 1 => .iface 151 (.pointer (some (es.getD k ⟨0, 0, none⟩)))


end Go.Proofs.YtdgknofpkafppaaDoor

/- The program's orders: Index, first, Has, insert. -/
namespace Go.Proofs.YtdgknofpkafppaaDoor
open Go Go.RowKit

/-- ErrPlace's cell. -/
structure Pl (w : World) (p : Addr) : Prop where
  c : w.cell? ⟨4, 0, none⟩ = some (.iface 151 (.pointer (some p)))
theorem Pl.on {w u : World} {p : Addr} (h : Pl w p) (hb : Below w.heap.size w u) : Pl u p := ⟨by rw [hb.cell (World.block_lt_of_cell? w _ h.c)]; exact h.c⟩
theorem Pl.drewN {w : World} {p : Addr} (h : Pl w p) (q : Nat) : Pl (w.drewN q) p := h.on (below_drewN (Below.refl _ _) q)
/-- ErrPlace, or none. -/
def pe (p : Addr) : Bool → Value
  | true => .iface 151 (.pointer (some p))
  | false => .nilIface

theorem isz_nil (a : Addr) (w : World) :
    Calls Tryd.prog 72 #[.nilIface, .iface 151 (.pointer (some a))] w fun e w' => e = .returned (.bool false) ∧ w' = w := by
  have hq := run_eql_iface_nil_left (P := Tryd.prog) w 151 (.pointer (some a)) Tryd.underlying27
  go_enter Tryd.func72, Tryd.ntmps72
  go_wp2
  go_ret
  exact ⟨rfl, rfl⟩

/-- Where one stands, as a number. -/
def zxI (k : Int) (l : List Int) : Int := match zx k l with
  | some i => i
  | none => -1

set_option maxRecDepth 100000 in
theorem zindex_any (a : Option Addr) (n c : Nat) (l : List Int) (k : Int) (w : World) (h : Rz w a n c l) :
    Calls Tryd.prog 91 #[.slice a n c, .int .i64 k] w fun e w' => e = .returned (.int .i64 (zxI k l)) ∧ w' = w := by
  have hn63 := h.small.1
  have H := hid h
  have HL := hid h.len
  clear h
  go_enter Tryd.func91, Tryd.ntmps91
  go_wp2
  go_loopw [8] (fun i wr => ∃ j : Nat, i = .int .i64 j ∧ j ≤ n ∧ (∀ i y, i < j → l[i]? = some y → y ≠ k) ∧ wr = w) (fun i _ => n - (numOf i).toNat)
  case atStart => exact ⟨0, rfl, by omega, fun i y hi => absurd hi (by omega), rfl⟩
  case round =>
    obtain ⟨j, rfl, hj, hq, rfl⟩ := hrel
    by_cases hgo : j < n
    · have e1 : decide ((j : Int) < n) = true := decide_eq_true (by omega)
      have e2 : (j : Int) < n := by omega
      obtain ⟨bl, off, x, rfl, _, hx, c0⟩ := H.out.at_ hgo
      have HX := hid hx
      have HQ := hid hq
      clear hx hq
      cases hs : (k == x)
      · have hne : x ≠ k := fun e => by simp [e] at hs
        have HN : Hid (∀ i y, i < j + 1 → l[i]? = some y → y ≠ k) := fun i y hi hy => by
          rcases Nat.lt_or_ge i j with h' | h'
          · exact HQ.out i y h' hy
          · obtain rfl : i = j := by omega
            rw [HX.out] at hy
            cases hy
            exact hne
        clear hne
        go_wp2
        go_roundw
        case rel => exact ⟨j + 1, by go_num, by omega, HN.out, trivial⟩
        case measure => simp [numOf]; omega
      · have HE : Hid (zxI k l = j) := by
          have hke : x = k := by simpa using (beq_iff_eq.1 hs).symm
          rw [Hid, zxI, zx_drop HQ.out, zx_at HX.out, if_pos hke]
          simp
        go_wp2
        go_ret
        rw [HE.out]
        exact ⟨rfl, rfl⟩
    · have e1 : decide ((j : Int) < n) = false := decide_eq_false (by omega)
      have HE : Hid (zxI k l = -1) := by
        rw [Hid, zxI, zx_drop hq, List.drop_eq_nil_of_le (by rw [HL.out]; omega)]
        rfl
      clear hq
      go_wp2
      go_ret
      rw [HE.out]
      exact ⟨rfl, rfl⟩

/-- What first answers. -/
def fstV (p : Addr) (k : Int) (l : List Int) : Value := match zx k l with
  | some i => .tuple #[.int .i64 (i : Nat), pe p false]
  | none => .tuple #[.int .i64 0, pe p true]
theorem fstV_some {p : Addr} {k : Int} {l : List Int} {i : Nat} (h : zx k l = some i) : fstV p k l = .tuple #[.int .i64 (i : Nat), .nilIface] := by rw [fstV, h]; rfl
theorem fstV_none {p : Addr} {k : Int} {l : List Int} (h : zx k l = none) : fstV p k l = .tuple #[.int .i64 0, .iface 151 (.pointer (some p))] := by rw [fstV, h]; rfl

set_option maxRecDepth 100000 in
theorem ofirst_any (a : Option Addr) (n c : Nat) (l : List Int) (k : Int) (w : World) (p : Addr) (hp : Pl w p) (h : Rz w a n c l) :
    Calls Tryd.prog 71 #[.slice a n c, .int .i64 k] w fun e w' => e = .returned (fstV p k l) ∧ ∃ q, w' = w.drewN q := by
  have c0 := hp.c
  have HI := hid (zindex_any a n c l k w h)
  clear h hp
  go_enter Tryd.func71, Tryd.ntmps71
  cases hx : zx k l with
  | some i =>
    rw [zxI, hx] at HI
    have HF := hid (fstV_some (p := p) hx)
    have e0 : decide ((0 : Int) ≤ (i : Nat)) = true := decide_eq_true (by omega)
    clear hx
    go_wp2_with fail
    refine HI.out.mono ?_
    rintro e w1 ⟨rfl, rfl⟩
    go_wp2
    go_ret2
    rw [HF.out]
    exact ⟨rfl, 0, rfl⟩
  | none =>
    rw [zxI, hx] at HI
    have HF := hid (fstV_none (p := p) hx)
    clear hx
    go_wp2_with fail
    refine HI.out.mono ?_
    rintro e w1 ⟨rfl, rfl⟩
    go_wp2
    go_quiet (fail)
    go_wp2
    go_ret2
    rw [HF.out]
    exact ⟨rfl, _, rfl⟩

set_option maxRecDepth 100000 in
theorem ohas_any (a : Option Addr) (n c : Nat) (l : List Int) (k : Int) (w : World) (p : Addr) (hp : Pl w p) (h : Rz w a n c l) :
    Calls Tryd.prog 87 #[.slice a n c, .int .i64 k] w fun e w' => e = .returned (.bool (zx k l).isSome) ∧ ∃ q, w' = w.drewN q := by
  have HI := hid (ofirst_any a n c l k w p hp h)
  have HC : Hid (∀ q, (w.drewN q).cell? ⟨4, 0, none⟩ = some (.iface 151 (.pointer (some p)))) := fun q => (hp.drewN q).c
  clear h hp
  go_enter Tryd.func87, Tryd.ntmps87
  cases hx : zx k l with
  | some i =>
    rw [fstV_some hx] at HI
    clear hx
    go_wp2_with fail
    refine HI.out.mono ?_
    rintro e w1 ⟨rfl, q, rfl⟩
    have c0 := HC.out q
    go_wp2_with fail
    refine (isz_nil p _).mono ?_
    rintro e w2 ⟨rfl, rfl⟩
    go_wp2
    go_ret
    exact ⟨rfl, _, rfl⟩
  | none =>
    rw [fstV_none hx] at HI
    clear hx
    go_wp2_with fail
    refine HI.out.mono ?_
    rintro e w1 ⟨rfl, q, rfl⟩
    have c0 := HC.out q
    go_wp2_with fail
    refine (is_same p _).mono ?_
    rintro e w2 ⟨rfl, rfl⟩
    go_wp2
    go_ret
    exact ⟨rfl, _, rfl⟩

end Go.Proofs.YtdgknofpkafppaaDoor

/- The five errors of a forest. -/
namespace Go.Proofs.YtdgknofpkafppaaDoor
open Go Go.RowKit

/-- ErrArg, ErrBig, ErrObject, ErrRole, ErrPlace. -/
structure Fe (w : World) (es : List Addr) : Prop where
  arg : w.cell? ⟨0, 0, none⟩ = some (erv es 1)
  big : w.cell? ⟨2, 0, none⟩ = some (erv es 4)
  obj : w.cell? ⟨1, 0, none⟩ = some (erv es 5)
  rol : w.cell? ⟨3, 0, none⟩ = some (erv es 10)
  plc : w.cell? ⟨4, 0, none⟩ = some (erv es 11)
theorem Fe.on {w w' : World} {es : List Addr} (h : Fe w es) (hb : Below w.heap.size w w') : Fe w' es :=
  ⟨by rw [hb.cell (World.block_lt_of_cell? w _ h.arg)]; exact h.arg, by rw [hb.cell (World.block_lt_of_cell? w _ h.big)]; exact h.big,
   by rw [hb.cell (World.block_lt_of_cell? w _ h.obj)]; exact h.obj, by rw [hb.cell (World.block_lt_of_cell? w _ h.rol)]; exact h.rol, by rw [hb.cell (World.block_lt_of_cell? w _ h.plc)]; exact h.plc⟩
theorem Fe.pl {w : World} {es : List Addr} (h : Fe w es) : Pl w (es.getD 10 ⟨0, 0, none⟩) := ⟨h.plc⟩
theorem erv_place (es : List Addr) : erv es 11 = .iface 151 (.pointer (some (es.getD 10 ⟨0, 0, none⟩))) := rfl
end Go.Proofs.YtdgknofpkafppaaDoor

/- What the program's calls write into a surface. -/
namespace Go.Proofs.YtdgknofpkafppaaDoor
open Go Go.RowKit

variable {base : Nat} {w0 w w' : World} {p m : Nat} {L : Po} {id : Int} {e : Ps}
theorem Pf.bk (h : Pf base w p m L) (he : gt L id = some e) : Bk w e.g 58 (pcs e.s).toArray := ⟨h.srf id e he⟩
theorem PfR.as {L' : Po} {F F' : Fo} (h : PfR base w0 p m L F w L') (e : F = F') : PfR base w0 p m L F' w L' := e ▸ h
/-- Cells of it written, its slices as they were. -/
theorem Pf.putC (h : Pf base w0 p m L) (he : gt L id = some e) (hb : Below w0.heap.size w0 w) (hk : Kp [e.g] w w') (s' : Sr) (hB : Bk w' e.g 58 (pcs s').toArray) (hown : s'.Own base w) {k : Nat} (hc : Chg w0.heap.size k e.s s') (f : Sf → Sf) (hf : s'.f = f e.s.f) :
    PfR base w0 p m L (upd (pab L) id f) w' (st L id ⟨e.g, s'⟩) :=
  (h.put he (kp_of_below hb []) (by simp) hk hB hown hc).as (pab_upd he f ⟨e.g, s'⟩ hf)
theorem kp1 (w : World) (g j : Nat) (v : Value) : Kp [g] w (w.setCell ⟨g, j, none⟩ v) := (Kp.refl [g] w).set ⟨g, j, none⟩ (by simp) v
theorem Kp.s1 {g : Nat} {w w' : World} (h : Kp [g] w w') (j : Nat) (v : Value) : Kp [g] w (w'.setCell ⟨g, j, none⟩ v) := h.set ⟨g, j, none⟩ (by simp) v

theorem Pf.putPar (h : Pf base w0 p m L) (he : gt L id = some e) (hb : Below w0.heap.size w0 w) (v : Int) :
    PfR base w0 p m L (upd (pab L) id fun s => { s with par := v }) (w.setCell ⟨e.g, 30, none⟩ (.int .i64 v)) (st L id ⟨e.g, { e.s with par := v }⟩) := by
  have ho := ((h.on hb).rows id e he)
  refine h.putC he hb (kp1 _ _ _ _) { e.s with par := v } ?_ ⟨⟨ho.ok.pe, ho.ok.ca, ho.ok.no⟩, ho.dm, ho.fr, ho.pp, ho.cp, ho.np⟩ (k := 5) ⟨.same, .same, .same, .same, .same, .same, .same, .same, .same, .same, .same, .same, .same, .same, .same⟩ _ rfl
  exact ((h.on hb).bk he).set 30 (.int .i64 v)
theorem Pf.putSyn (h : Pf base w0 p m L) (he : gt L id = some e) (hb : Below w0.heap.size w0 w) (v : Bool) :
    PfR base w0 p m L (upd (pab L) id fun s => { s with syn := v }) (w.setCell ⟨e.g, 31, none⟩ (.bool v)) (st L id ⟨e.g, { e.s with syn := v }⟩) := by
  have ho := ((h.on hb).rows id e he)
  refine h.putC he hb (kp1 _ _ _ _) { e.s with syn := v } ?_ ⟨⟨ho.ok.pe, ho.ok.ca, ho.ok.no⟩, ho.dm, ho.fr, ho.pp, ho.cp, ho.np⟩ (k := 5) ⟨.same, .same, .same, .same, .same, .same, .same, .same, .same, .same, .same, .same, .same, .same, .same⟩ _ rfl
  exact ((h.on hb).bk he).set 31 (.bool v)
theorem Pf.putPS (h : Pf base w0 p m L) (he : gt L id = some e) (hb : Below w0.heap.size w0 w) (u : Int) (v : Bool) :
    PfR base w0 p m L (upd (pab L) id fun s => { s with par := u, syn := v }) ((w.setCell ⟨e.g, 30, none⟩ (.int .i64 u)).setCell ⟨e.g, 31, none⟩ (.bool v)) (st L id ⟨e.g, { e.s with par := u, syn := v }⟩) := by
  have ho := ((h.on hb).rows id e he)
  refine h.putC he hb ((kp1 _ _ _ _).s1 _ _) { e.s with par := u, syn := v } ?_ ⟨⟨ho.ok.pe, ho.ok.ca, ho.ok.no⟩, ho.dm, ho.fr, ho.pp, ho.cp, ho.np⟩ (k := 5) ⟨.same, .same, .same, .same, .same, .same, .same, .same, .same, .same, .same, .same, .same, .same, .same⟩ _ rfl
  exact (((h.on hb).bk he).set 30 (.int .i64 u)).set 31 (.bool v)
theorem Pf.putAtt (h : Pf base w0 p m L) (he : gt L id = some e) (hb : Below w0.heap.size w0 w) (v : Int) :
    PfR base w0 p m L (upd (pab L) id (attS v)) ((w.setCell ⟨e.g, 0, none⟩ (.bool true)).setCell ⟨e.g, 1, none⟩ (.int .i64 v)) (st L id ⟨e.g, { e.s with pe := { e.s.pe with at_ := true, buf := v } }⟩) := by
  have ho := ((h.on hb).rows id e he)
  refine h.putC he hb ((kp1 _ _ _ _).s1 _ _) { e.s with pe := { e.s.pe with at_ := true, buf := v } } ?_ ⟨⟨⟨ho.ok.pe.dm, ho.ok.pe.fr, ho.ok.pe.rg, ho.ok.pe.od, ho.ok.pe.pl⟩, ho.ok.ca, ho.ok.no⟩, ho.dm, ho.fr, ho.pp, ho.cp, ho.np⟩ (k := 5) ⟨.same, .same, .same, .same, .same, .same, .same, .same, .same, .same, .same, .same, .same, .same, .same⟩ _ rfl
  exact (((h.on hb).bk he).set 0 (.bool true)).set 1 (.int .i64 v)
/-- A new order, to come: its row is new. -/
theorem Pf.putOd (h : Pf base w0 p m L) (he : gt L id = some e) (hb : Below w0.heap.size w0 w) (l : Sl) (hl : RdM 1 w l.a l.n l.c l.l) (hn : ∀ y, l.a = some y → 0 < l.n → w0.heap.size ≤ y.block) :
    PfR base w0 p m L (upd (pab L) id (ordS l.l)) ((w.setCell ⟨e.g, 7, none⟩ (.bool true)).setCell ⟨e.g, 8, none⟩ l.v) (st L id ⟨e.g, { e.s with pe := { e.s.pe with ord := true, od := l } }⟩) := by
  have ho := ((h.on hb).rows id e he)
  refine h.putC he hb ((kp1 _ _ _ _).s1 _ _) { e.s with pe := { e.s.pe with ord := true, od := l } } ?_ ⟨⟨⟨ho.ok.pe.dm, ho.ok.pe.fr, ho.ok.pe.rg, hl, ho.ok.pe.pl⟩, ho.ok.ca, ho.ok.no⟩, ho.dm, ho.fr, ho.pp, ho.cp, ho.np⟩ (k := 5) ⟨.same, .same, .same, .same, .same, .same, .inr fun y hy h0 => ⟨hn y hy h0, by simp [wk, wos]⟩, .same, .same, .same, .same, .same, .same, .same, .same⟩ _ rfl
  exact (((h.on hb).bk he).set 7 (.bool true)).set 8 l.v
/-- New places, to come: their row is new, and its own. -/
theorem Pf.putPl (h : Pf base w0 p m L) (he : gt L id = some e) (hb : Below w0.heap.size w0 w) (l : Sl) (hl : RdM 3 w l.a l.n l.c l.l) (ho' : w.ownsRow w0.heap.size 46 3 l.v l.n (mcs l.l)) (f : Sf → Sf) (hf : { e.s.f with pe := { e.s.f.pe with pl := l.l } } = f e.s.f) :
    PfR base w0 p m L (upd (pab L) id f) (w.setCell ⟨e.g, 9, none⟩ l.v) (st L id ⟨e.g, { e.s with pe := { e.s.pe with pl := l } }⟩) := by
  have ho := ((h.on hb).rows id e he)
  have hB := (h.lt.1)
  have hlo := h.lop
  refine h.putC he hb (kp1 _ _ _ _) { e.s with pe := { e.s.pe with pl := l } } ?_ ⟨⟨⟨ho.ok.pe.dm, ho.ok.pe.fr, ho.ok.pe.rg, ho.ok.pe.od, hl⟩, ho.ok.ca, ho.ok.no⟩, ho.dm, ho.fr, ownsRow_low ho' (by omega), ho.cp, ho.np⟩ (k := 2) ⟨.same, .same, .fresh fun b hb => .inr (own_blk ho' hb).1, .same, .same, .same, .same, .same, .same, .same, .same, .same, .same, .same, .same⟩ f hf
  exact ((h.on hb).bk he).set 9 l.v
/-- A row that grew where it lay, or anew. -/
theorem Pf.putDm (h : Pf base w0 p m L) (he : gt L id = some e) (hb : Below w0.heap.size w0 w) {w1 : World} {l : Sl} {r : List Int} (ho' : w1.ownsRow base 91 4 l.v l.n (mcs l.l)) (hl : RdM 4 w1 l.a l.n l.c l.l) (hg : w.grownBy w1 e.s.pe.dm.v.ownBlock) (hn : ∀ b ∈ l.bl, b ∈ e.s.pe.dm.bl ∨ w0.heap.size ≤ b) (hll : l.l = e.s.pe.dm.l ++ [r]) :
    PfR base w0 p m L (upd (pab L) id (dmgS r)) (w1.setCell ⟨e.g, 2, none⟩ l.v) (st L id ⟨e.g, { e.s with pe := { e.s.pe with dm := l } }⟩) := by
  have hk := kp_of_grown hg
  have hm : ∀ b ∈ e.s.pe.dm.bl, b ∈ wb e := fun b hb => mem_wb.2 (.inr ⟨_, by simp [wos], hb⟩)
  have hk0 : Kp e.s.pe.dm.bl w0 w1 := (kp_of_below hb e.s.pe.dm.bl).trans hk (fun b hb _ => hb)
  obtain ⟨hsep, hfar⟩ := h.sep id e he
  have hge : e.g ∉ e.s.pe.dm.bl := hsep.g _ (by simp [wos])
  have hB : Bk w1 e.g 58 (pcs e.s).toArray := (h.bk he).kp hk0 hge
  have ho := ((h.on hb).rows id e he)
  have hw : ∀ (i : Nat) x, (wos e.s)[i]? = some x → i ≠ 0 → ∀ b ∈ x.bl, b ∉ e.s.pe.dm.v.ownBlock.toList := fun i x hx h0 b hb hm => h0 (hsep.two i 0 x e.s.pe.dm b hx rfl hb hm)
  have hr : ∀ z ∈ ros e.s, ∀ b ∈ e.s.pe.dm.v.ownBlock.toList, z.Frb b := fun z hz b hb => (hfar b (hm b hb)).2.2.2 z hz
  refine (h.put he hk0 (fun b hb => hm b hb) (kp1 _ _ _ _) (s' := { e.s with pe := { e.s.pe with dm := l } }) (hB.set 2 l.v) ⟨⟨⟨hl, rd_farw ho.ok.pe.fr hk (hw 1 _ rfl (by omega)), rd_far ho.ok.pe.rg hk (hr _ (by simp [ros])), rd_far ho.ok.pe.od hk (hr _ (by simp [ros])), rd_farw ho.ok.pe.pl hk (hw 2 _ rfl (by omega))⟩,
    ⟨rd_far ho.ok.ca.dm hk (hr _ (by simp [ros])), rd_far ho.ok.ca.fr hk (hr _ (by simp [ros])), rd_far ho.ok.ca.rg hk (hr _ (by simp [ros])), rd_far ho.ok.ca.od hk (hr _ (by simp [ros])), rd_farw ho.ok.ca.pl hk (hw 3 _ rfl (by omega))⟩,
    ⟨rd_far ho.ok.no.dm hk (hr _ (by simp [ros])), rd_far ho.ok.no.fr hk (hr _ (by simp [ros])), rd_far ho.ok.no.rg hk (hr _ (by simp [ros])), rd_far ho.ok.no.od hk (hr _ (by simp [ros])), rd_farw ho.ok.no.pl hk (hw 4 _ rfl (by omega))⟩⟩,
    ho', own_far ho.fr hk (hw 1 _ rfl (by omega)), own_far ho.pp hk (hw 2 _ rfl (by omega)), own_far ho.cp hk (hw 3 _ rfl (by omega)), own_far ho.np hk (hw 4 _ rfl (by omega))⟩ (k := 0)
    ⟨.fresh hn, .same, .same, .same, .same, .same, .same, .same, .same, .same, .same, .same, .same, .same, .same⟩).as (pab_upd he (dmgS r) ⟨e.g, { e.s with pe := { e.s.pe with dm := l } }⟩ ?_)
  simp only [Sr.f, Sx.q, dmgS, hll]
theorem Pf.putFr (h : Pf base w0 p m L) (he : gt L id = some e) (hb : Below w0.heap.size w0 w) {w1 : World} {l : Sl} {r : Int} (ho' : w1.ownsRow base 3 1 l.v l.n (mcs l.l)) (hl : RdM 1 w1 l.a l.n l.c l.l) (hg : w.grownBy w1 e.s.pe.fr.v.ownBlock) (hn : ∀ b ∈ l.bl, b ∈ e.s.pe.fr.bl ∨ w0.heap.size ≤ b) (hll : l.l = e.s.pe.fr.l ++ [[r]]) :
    PfR base w0 p m L (upd (pab L) id (frmS r)) (w1.setCell ⟨e.g, 3, none⟩ l.v) (st L id ⟨e.g, { e.s with pe := { e.s.pe with fr := l } }⟩) := by
  have hk := kp_of_grown hg
  have hm : ∀ b ∈ e.s.pe.fr.bl, b ∈ wb e := fun b hb => mem_wb.2 (.inr ⟨_, by simp [wos], hb⟩)
  have hk0 : Kp e.s.pe.fr.bl w0 w1 := (kp_of_below hb e.s.pe.fr.bl).trans hk (fun b hb _ => hb)
  obtain ⟨hsep, hfar⟩ := h.sep id e he
  have hge : e.g ∉ e.s.pe.fr.bl := hsep.g _ (by simp [wos])
  have hB : Bk w1 e.g 58 (pcs e.s).toArray := (h.bk he).kp hk0 hge
  have ho := ((h.on hb).rows id e he)
  have hw : ∀ (i : Nat) x, (wos e.s)[i]? = some x → i ≠ 1 → ∀ b ∈ x.bl, b ∉ e.s.pe.fr.v.ownBlock.toList := fun i x hx h0 b hb hm => h0 (hsep.two i 1 x e.s.pe.fr b hx rfl hb hm)
  have hr : ∀ z ∈ ros e.s, ∀ b ∈ e.s.pe.fr.v.ownBlock.toList, z.Frb b := fun z hz b hb => (hfar b (hm b hb)).2.2.2 z hz
  refine (h.put he hk0 (fun b hb => hm b hb) (kp1 _ _ _ _) (s' := { e.s with pe := { e.s.pe with fr := l } }) (hB.set 3 l.v) ⟨⟨⟨rd_farw ho.ok.pe.dm hk (hw 0 _ rfl (by omega)), hl, rd_far ho.ok.pe.rg hk (hr _ (by simp [ros])), rd_far ho.ok.pe.od hk (hr _ (by simp [ros])), rd_farw ho.ok.pe.pl hk (hw 2 _ rfl (by omega))⟩,
    ⟨rd_far ho.ok.ca.dm hk (hr _ (by simp [ros])), rd_far ho.ok.ca.fr hk (hr _ (by simp [ros])), rd_far ho.ok.ca.rg hk (hr _ (by simp [ros])), rd_far ho.ok.ca.od hk (hr _ (by simp [ros])), rd_farw ho.ok.ca.pl hk (hw 3 _ rfl (by omega))⟩,
    ⟨rd_far ho.ok.no.dm hk (hr _ (by simp [ros])), rd_far ho.ok.no.fr hk (hr _ (by simp [ros])), rd_far ho.ok.no.rg hk (hr _ (by simp [ros])), rd_far ho.ok.no.od hk (hr _ (by simp [ros])), rd_farw ho.ok.no.pl hk (hw 4 _ rfl (by omega))⟩⟩,
    own_far ho.dm hk (hw 0 _ rfl (by omega)), ho', own_far ho.pp hk (hw 2 _ rfl (by omega)), own_far ho.cp hk (hw 3 _ rfl (by omega)), own_far ho.np hk (hw 4 _ rfl (by omega))⟩ (k := 1)
    ⟨.same, .fresh hn, .same, .same, .same, .same, .same, .same, .same, .same, .same, .same, .same, .same, .same⟩).as (pab_upd he (frmS r) ⟨e.g, { e.s with pe := { e.s.pe with fr := l } }⟩ ?_)
  simp only [Sr.f, Sx.q, frmS, hll]
/-- Where input comes. -/
theorem Pf.putIn (h : Pf base w0 p m L) (he : gt L id = some e) (hb : Below w0.heap.size w0 w) (a : Bool) (l : Sl) (hl : RdM 4 w l.a l.n l.c l.l) (hn : ∀ y, l.a = some y → 0 < l.n → w0.heap.size ≤ y.block) (hk : Kp [e.g] w w') (hB : Bk w' e.g 58 (pcs { e.s with pe := { e.s.pe with inp := true, all := a, rg := l } }).toArray) (M : List (List Int)) (hM : l.l = bif a then [] else M) :
    PfR base w0 p m L (upd (pab L) id (inpS a M)) w' (st L id ⟨e.g, { e.s with pe := { e.s.pe with inp := true, all := a, rg := l } }⟩) := by
  have ho := ((h.on hb).rows id e he)
  refine h.putC he hb hk { e.s with pe := { e.s.pe with inp := true, all := a, rg := l } } hB ⟨⟨⟨ho.ok.pe.dm, ho.ok.pe.fr, hl, ho.ok.pe.od, ho.ok.pe.pl⟩, ho.ok.ca, ho.ok.no⟩, ho.dm, ho.fr, ho.pp, ho.cp, ho.np⟩ (k := 5) ⟨.same, .same, .same, .same, .same, .inr fun y hy h0 => ⟨hn y hy h0, by simp [wk, wos]⟩, .same, .same, .same, .same, .same, .same, .same, .same, .same⟩ _ ?_
  simp only [Sr.f, Sx.q, inpS, hM]
/-- Frames taken. -/
theorem Pf.putTak (h : Pf base w0 p m L) (he : gt L id = some e) (hb : Below w0.heap.size w0 w) :
    PfR base w0 p m L (upd (pab L) id takS) (w.setCell ⟨e.g, 23, none⟩ (.slice none 0 0)) (st L id ⟨e.g, { e.s with no := { e.s.no with fr := sl0 } }⟩) := by
  have ho := ((h.on hb).rows id e he)
  refine h.putC he hb (kp1 _ _ _ _) { e.s with no := { e.s.no with fr := sl0 } } ?_ ⟨⟨ho.ok.pe, ho.ok.ca, ⟨ho.ok.no.dm, RdM.nil _ _, ho.ok.no.rg, ho.ok.no.od, ho.ok.no.pl⟩⟩, ho.dm, ho.fr, ho.pp, ho.cp, ho.np⟩ (k := 5) ⟨.same, .same, .same, .same, .same, .same, .same, .same, .same, .same, .same, .same, .nil rfl, .same, .same⟩ _ rfl
  exact ((h.on hb).bk he).set 23 (.slice none 0 0)
/-- What is to come goes by way of what is cached. -/
theorem Pf.putCm (h : Pf base w0 p m L) (he : gt L id = some e) (hb : Below w0.heap.size w0 w) (r : Sx) (hr : r.Ok w) (hn : r.New w0.heap.size) (ho' : w.ownsRow w0.heap.size 46 3 r.pl.v r.pl.n (mcs r.pl.l)) (hp : r.Plf) (hk : Kp [e.g] w w') (hB : Bk w' e.g 58 (pcs { e.s with ca := r, pe := sx0 }).toArray) (hq : r.q = mrg e.s.ca.q e.s.pe.q) :
    PfR base w0 p m L (upd (pab L) id fun s => { s with ca := mrg s.ca s.pe, pe := sq0 }) w' (st L id ⟨e.g, { e.s with ca := r, pe := sx0 }⟩) := by
  have ho := ((h.on hb).rows id e he)
  have hB' := (h.lt.1)
  have hlo := h.lop
  have hwk : ∀ b ∈ wk 3 { e.s with ca := r, pe := sx0 }, ∃ y, r.pl.a = some y ∧ y.block = b := fun b hb => bl_of.1 (by simpa [wk, wos] using hb)
  refine h.putC he hb hk { e.s with ca := r, pe := sx0 } hB ⟨⟨sx0_ok w, hr, ho.ok.no⟩, World.ownsRow_nil _ _ _ _, World.ownsRow_nil _ _ _ _, World.ownsRow_nil _ _ _ _, ownsRow_low ho' (by omega), ho.np⟩ (k := 3)
    ⟨.nil rfl, .nil rfl, .nil rfl, .fresh fun b hb => .inr (own_blk ho' hb).1, .same, .nil rfl, .nil rfl,
      .inr fun y hy h0 => ⟨hn.dm y hy, fun hm => ?_⟩, .inr fun y hy h0 => ⟨hn.fr y hy, fun hm => ?_⟩, .inr fun y hy h0 => ⟨hn.rg y hy, fun hm => ?_⟩, .inr fun y hy h0 => ⟨hn.od y hy, fun hm => ?_⟩, .same, .same, .same, .same⟩ _ ?_
  · obtain ⟨z, hz, e1⟩ := hwk _ hm
    exact (hp z hz y).1 hy h0 e1.symm
  · obtain ⟨z, hz, e1⟩ := hwk _ hm
    exact (hp z hz y).2.1 hy h0 e1.symm
  · obtain ⟨z, hz, e1⟩ := hwk _ hm
    exact (hp z hz y).2.2.1 hy h0 e1.symm
  · obtain ⟨z, hz, e1⟩ := hwk _ hm
    exact (hp z hz y).2.2.2 hy h0 e1.symm
  · simp only [Sr.f, hq, sx0_q]
/-- What is cached is applied. -/
theorem Pf.putAp (h : Pf base w0 p m L) (he : gt L id = some e) (hb : Below w0.heap.size w0 w) (r : Sx) (hr : r.Ok w) (hn : r.New w0.heap.size) (ho' : w.ownsRow w0.heap.size 46 3 r.pl.v r.pl.n (mcs r.pl.l)) (hp : r.Plf) (hk : Kp [e.g] w w') (hB : Bk w' e.g 58 (pcs { e.s with no := r, ca := sx0 }).toArray) (hq : r.q = apl e.s.no.q e.s.ca.q) :
    PfR base w0 p m L (upd (pab L) id aplS) w' (st L id ⟨e.g, { e.s with no := r, ca := sx0 }⟩) := by
  have ho := ((h.on hb).rows id e he)
  have hB' := (h.lt.1)
  have hlo := h.lop
  have hwk : ∀ b ∈ wk 4 { e.s with no := r, ca := sx0 }, ∃ y, r.pl.a = some y ∧ y.block = b := fun b hb => bl_of.1 (by simpa [wk, wos] using hb)
  refine h.putC he hb hk { e.s with no := r, ca := sx0 } hB ⟨⟨ho.ok.pe, sx0_ok w, hr⟩, ho.dm, ho.fr, ho.pp, World.ownsRow_nil _ _ _ _, ownsRow_low ho' (by omega)⟩ (k := 4)
    ⟨.same, .same, .same, .nil rfl, .fresh fun b hb => .inr (own_blk ho' hb).1, .same, .same, .nil rfl, .nil rfl, .nil rfl, .nil rfl,
      .inr fun y hy h0 => ⟨hn.dm y hy, fun hm => ?_⟩, .inr fun y hy h0 => ⟨hn.fr y hy, fun hm => ?_⟩, .inr fun y hy h0 => ⟨hn.rg y hy, fun hm => ?_⟩, .inr fun y hy h0 => ⟨hn.od y hy, fun hm => ?_⟩⟩ _ ?_
  · obtain ⟨z, hz, e1⟩ := hwk _ hm
    exact (hp z hz y).1 hy h0 e1.symm
  · obtain ⟨z, hz, e1⟩ := hwk _ hm
    exact (hp z hz y).2.1 hy h0 e1.symm
  · obtain ⟨z, hz, e1⟩ := hwk _ hm
    exact (hp z hz y).2.2.1 hy h0 e1.symm
  · obtain ⟨z, hz, e1⟩ := hwk _ hm
    exact (hp z hz y).2.2.2 hy h0 e1.symm
  · simp only [Sr.f, hq, sx0_q, aplS]
end Go.Proofs.YtdgknofpkafppaaDoor

/- The program's forest: find, Has, Parent, findSub, latest, reorder. -/
namespace Go.Proofs.YtdgknofpkafppaaDoor
open Go Go.RowKit

section
variable {H : Type} {P : Program} {ops : Array Oper} {rest : List Oper} {o : Oper} {a : Act} (w : World) {Q : Exit → Act → World → Prop}
theorem wpList_lookup_own (hg : o.guard = none) (m x : Operand) (t : TypeId) (hop : o.op = Op.lookup t m x false)
    (k e : TypeId) (K : Maps.Keyed P k) (ht : P.underlying t = some (.map k e)) (R : Value → Option (DataW H × List MemPlace)) {z : Value} (hz : (zeroValue e).run P w = .ok z w) (zd : DataW H) (zp : List MemPlace) (hzd : R z = some (zd, zp)) (b n : Nat) (D : DataW H)
    (hm : a.eval m = .map (some b)) (hown : w.ownsMap P k R b n D) (key : Value) (kl : Lit) (hx : a.eval x = key) (hkey : keyOf P k key = some kl)
    (hK : ∀ v ps, R v = some (D.atKey kl zd, ps) → wpList P ops Q rest (a.put o.dst v) w) :
    wpList P ops Q (o :: rest) a w := by
  refine wpList_plain hg fun K' hK' => ?_
  obtain ⟨v, ps, hrun, hv⟩ := hown.lookup K ht hz hzd hkey
  unfold Oper.wp
  simp [execOp, hop, hm, hx, hrun, Result.andThen]
  exact hK' _ _ (hK v ps hv)
end

variable {base : Nat} {w w' : World} {p m : Nat} {L : Po} {id : Int} {es : List Addr}
theorem kBt (id : Int) (h : Bt id) : keyOf Tryd.prog 3 (.int .i64 id) = some (.int .i64 id) :=
  Maps.keyOf_int_mk Tryd.underlying3 (by unfold Bt at h; simp [Lit.wf, IntKind.min, IntKind.max, IntKind.signed, IntKind.bits]; omega)
theorem zPt (w : World) : (zeroValue 55).run Tryd.prog w = .ok (ptv none) w := by kernel_rfl
/-- What a number leads to. -/
def pto (L : Po) (id : Int) : Option Nat := (gt L id).map (·.g)
theorem Pf.look (h : Pf base w p m L) : ∃ D, w.ownsMap Tryd.prog 3 ptR m L.length D ∧ ∀ k : Int, Maps.has D (.int .i64 k) = (gt L k).isSome ∧ D.atKey (.int .i64 k) (ptd none) = ptd (pto L k) := by
  obtain ⟨D, h1, h2⟩ := h.own
  refine ⟨D, h1, fun k => ?_⟩
  obtain ⟨h3, h4⟩ := h2 k
  rw [gt_pmp] at h3 h4
  refine ⟨by rw [h3]; cases gt L k <;> rfl, ?_⟩
  rw [h4, pto]
  cases gt L k <;> rfl

set_option maxRecDepth 100000 in
theorem ffind_any (hE : Fe w es) (h : Pf base w p m L) (id : Int) (hi : Bt id) :
    Calls Tryd.prog 28 #[.pointer (some ⟨p, 0, none⟩), .int .i64 id] w fun e w' => e = .returned (.tuple #[ptv (pto L id), erv es (hasE (pab L) id)]) ∧ ∃ q, w' = w.drewN q := by
  obtain ⟨D, ho, hA⟩ := h.look
  have HO := hid ho
  have HA := hid (hA id)
  have HZ := hid (zPt w)
  have HK := hid (kBt id hi)
  have c0 := h.c0
  have l0 := h.lt.1
  cases hq : gt L id with
  | none =>
    have HS : Hid (pto L id = none ∧ hasE (pab L) id = 5) := ⟨by rw [pto, hq]; rfl, by rw [hasE, gt_pab, hq]; rfl⟩
    rw [hq, HS.out.1] at HA
    rw [HS.out.1, HS.out.2]
    have c5 := hE.obj
    have l5 := World.block_lt_of_cell? _ _ c5
    clear hq h ho hA HS hE
    go_enter Tryd.func28, Tryd.ntmps28
    go_wp2_with (at_lookup; refine wpList_lookup_own_ok _ rfl (.tmp 12) (.tmp 13) 52 rfl 3 55 (Maps.int_keyed Tryd.underlying3) Tryd.underlying52 ptR HZ.out _ _ (ptR_mk none) m _ D rfl HO.out _ _ rfl HK.out ?_; intro v ps hv; rw [HA.out.2] at hv; obtain rfl := ptR_inv hv; rw [HA.out.1, Option.isSome_none]; clear hv)
    go_region
    go_wp2
    go_ret2
    exact ⟨rfl, 1, rfl⟩
  | some e =>
    have HS : Hid (pto L id = some e.g ∧ hasE (pab L) id = 0) := ⟨by rw [pto, hq]; rfl, by rw [hasE, gt_pab, hq]; rfl⟩
    rw [hq, HS.out.1] at HA
    rw [HS.out.1, HS.out.2]
    clear hq h ho hA HS hE
    go_enter Tryd.func28, Tryd.ntmps28
    go_wp2_with (at_lookup; refine wpList_lookup_own_ok _ rfl (.tmp 12) (.tmp 13) 52 rfl 3 55 (Maps.int_keyed Tryd.underlying3) Tryd.underlying52 ptR HZ.out _ _ (ptR_mk none) m _ D rfl HO.out _ _ rfl HK.out ?_; intro v ps hv; rw [HA.out.2] at hv; obtain rfl := ptR_inv hv; rw [HA.out.1, Option.isSome_some]; clear hv)
    go_ret2
    exact ⟨rfl, 0, rfl⟩

set_option maxRecDepth 100000 in
theorem fhas_any (h : Pf base w p m L) (id : Int) (hi : Bt id) :
    Calls Tryd.prog 24 #[.pointer (some ⟨p, 0, none⟩), .int .i64 id] w fun e w' => e = .returned (.bool (gt L id).isSome) ∧ w' = w := by
  obtain ⟨D, ho, hA⟩ := h.look
  have HO := hid ho
  have HA := hid (hA id)
  have HZ := hid (zPt w)
  have HK := hid (kBt id hi)
  have c0 := h.c0
  have l0 := h.lt.1
  clear h ho hA
  go_enter Tryd.func24, Tryd.ntmps24
  go_wp2_with (at_lookup; refine wpList_lookup_own_ok _ rfl (.tmp 11) (.tmp 12) 52 rfl 3 55 (Maps.int_keyed Tryd.underlying3) Tryd.underlying52 ptR HZ.out _ _ (ptR_mk none) m _ D rfl HO.out _ _ rfl HK.out ?_; intro v ps hv; rw [HA.out.2] at hv; obtain rfl := ptR_inv hv; rw [HA.out.1]; clear hv)
  go_ret
  exact ⟨rfl, rfl⟩

/-- The parent's number. -/
def parF (F : Fo) (id : Int) : Int := match gt F id with
  | none => 0
  | some s => s.par
theorem Fe.drewN (h : Fe w es) (q : Nat) : Fe (w.drewN q) es := h.on (below_drewN (Below.refl _ _) q)
theorem Pf.drewN (h : Pf base w p m L) (q : Nat) : Pf base (w.drewN q) p m L := h.on (below_drewN (Below.refl _ _) q)
theorem ptv_some (g : Nat) : ptv (some g) = .pointer (some ⟨g, 0, none⟩) := rfl
theorem ptv_none : ptv none = .pointer none := rfl
theorem erv0 (es : List Addr) : erv es 0 = .nilIface := rfl
theorem erv_succ (es : List Addr) (k : Nat) : erv es (k + 1) = .iface 151 (.pointer (some (es.getD k ⟨0, 0, none⟩))) := rfl

set_option maxRecDepth 100000 in
theorem fparent_any (hE : Fe w es) (h : Pf base w p m L) (id : Int) (hi : Bt id) :
    Calls Tryd.prog 26 #[.pointer (some ⟨p, 0, none⟩), .int .i64 id] w fun e w' => e = .returned (.int .i64 (parF (pab L) id)) ∧ ∃ q, w' = w.drewN q := by
  have HF := hid (ffind_any hE h id hi)
  cases hq : gt L id with
  | none =>
    have HS : Hid (pto L id = none ∧ hasE (pab L) id = 5 ∧ parF (pab L) id = 0) := ⟨by rw [pto, hq]; rfl, by rw [hasE, gt_pab, hq]; rfl, by rw [parF, gt_pab, hq]; rfl⟩
    rw [HS.out.1, HS.out.2.1] at HF
    rw [HS.out.2.2]
    clear hq h hE HS
    go_enter Tryd.func26, Tryd.ntmps26
    go_wp2_with fail
    refine HF.out.mono ?_
    rintro e w1 ⟨rfl, q1, rfl⟩
    rw [ptv_none, erv_succ]
    go_wp2
    go_ret
    exact ⟨rfl, q1, rfl⟩
  | some e =>
    have HS : Hid (pto L id = some e.g ∧ hasE (pab L) id = 0 ∧ parF (pab L) id = e.s.par) := ⟨by rw [pto, hq]; rfl, by rw [hasE, gt_pab, hq]; rfl, by rw [parF, gt_pab, hq]; rfl⟩
    rw [HS.out.1, HS.out.2.1] at HF
    rw [HS.out.2.2]
    have HC : Hid (∀ q, (w.drewN q).cell? ⟨e.g, 30, none⟩ = some (.int .i64 e.s.par)) := fun q => (h.drewN q).cell hq
    have hlt := (h.wlt hq (mem_wb.2 (.inl rfl))).2
    clear hq h hE HS
    go_enter Tryd.func26, Tryd.ntmps26
    go_wp2_with fail
    refine HF.out.mono ?_
    rintro e' w1 ⟨rfl, q1, rfl⟩
    have c1 := HC.out q1
    rw [ptv_some, erv0]
    go_wp2
    go_ret
    exact ⟨rfl, q1, rfl⟩

end Go.Proofs.YtdgknofpkafppaaDoor
