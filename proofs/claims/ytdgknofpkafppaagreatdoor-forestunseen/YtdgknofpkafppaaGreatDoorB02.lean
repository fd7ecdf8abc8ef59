/- Lemmas that the proof leans on. -/
import Derived.Lib.SlKeysI
import Derived.Lib.Builder
import Derived.Test.YtdgknofpkafppaaGreatDoorB01
namespace Go.Proofs.YtdgknofpkafppaaGreatDoor
open Go Go.RowKit
section
section
variable {α : Type}
def gt : List (Int × α) → Int → Option α
 | [], _ => none
 | e :: l, k => if e.1 = k then some e.2 else gt l k
def st (l : List (Int × α)) (k : Int) (q : α) : List (Int × α) := l.map fun e => if e.1 = k then (k, q) else e
def rm (l : List (Int × α)) (k : Int) : List (Int × α) := l.filter fun e => decide (e.1 ≠ k)
def keys (l : List (Int × α)) : List Int := l.map (·.1)
def wr (l : List (Int × α)) (k : Int) (q : α) : List (Int × α) := if (gt l k).isSome then st l k q else l ++ [(k, q)]
theorem gt_none {l : List (Int × α)} {k : Int} : gt l k = none ↔ k ∉ keys l := by
 induction l with
 | nil => simp [gt, keys]
 | cons e l ih =>
  simp only [gt, keys, List.map_cons, List.mem_cons, not_or]
  split
  ·rename_i h
   simp [h]
  ·rename_i h
   rw [ih, keys]
   exact ⟨fun q => ⟨fun x => h x.symm, q⟩, fun q => q.2⟩
theorem gt_some {l : List (Int × α)} {k : Int} : (gt l k).isSome = true ↔ k ∈ keys l := by
 cases h : gt l k with
 | none => simp [gt_none.1 h]
 | some q =>
  have : ¬ k ∉ keys l := fun h' => by rw [gt_none.2 h'] at h; cases h
  simpa using this
theorem gt_app (l : List (Int × α)) (k x : Int) (q : α) : gt (l ++ [(k, q)]) x = if (gt l x).isSome then gt l x else if k = x then some q else none := by
 induction l with
 | nil => simp [gt]
 | cons e l ih =>
  simp only [List.cons_append, gt]
  split
  ·simp
  ·exact ih
theorem gt_st (l : List (Int × α)) (k x : Int) (q : α) : gt (st l k q) x = if x = k then (gt l k).map (fun _ => q) else gt l x := by
 induction l with
 | nil => simp [gt, st]
 | cons e l ih =>
  simp only [st, List.map_cons, gt] at ih ⊢
  by_cases he : e.1 = k
  ·rw [if_pos he, if_pos he]
   by_cases hx : x = k
   ·rw [if_pos hx.symm, if_pos hx]
    simp
   ·rw [if_neg (fun h => hx h.symm), if_neg hx, ih, if_neg hx, if_neg (fun h => hx (h.symm.trans he))]
  ·rw [if_neg he, if_neg he]
   by_cases hx : x = k
   ·subst hx
    rw [if_neg he, ih, if_pos rfl, if_pos rfl]
   ·rw [if_neg hx, ih, if_neg hx]
theorem gt_wr (l : List (Int × α)) (k x : Int) (q : α) : gt (wr l k q) x = if x = k then some q else gt l x := by
 unfold wr
 split
 ·rename_i h
  rw [gt_st]
  by_cases hx : x = k
  ·rw [if_pos hx, if_pos hx]
   obtain ⟨q', hq'⟩ := Option.isSome_iff_exists.1 h
   rw [hq']
   rfl
  ·rw [if_neg hx, if_neg hx]
 ·rename_i h
  rw [gt_app]
  by_cases hx : x = k
  ·subst hx
   rw [if_neg h, if_pos rfl, if_pos rfl]
  ·rw [if_neg hx]
   cases hg : gt l x with
   | none => simp [show k ≠ x from fun h => hx h.symm]
   | some q => simp
theorem gt_rm (l : List (Int × α)) (k x : Int) : gt (rm l k) x = if x = k then none else gt l x := by
 induction l with
 | nil => simp [gt, rm]
 | cons e l ih =>
  simp only [rm, List.filter_cons, gt] at ih ⊢
  by_cases he : e.1 = k
  ·rw [if_neg (by simpa using he), ih]
   by_cases hx : x = k
   ·rw [if_pos hx, if_pos hx]
   ·rw [if_neg hx, if_neg hx, if_neg (fun h => hx (h.symm.trans he))]
  ·rw [if_pos (by simpa using he)]
   simp only [gt]
   by_cases hx : x = k
   ·rw [if_pos hx, if_neg (fun h => he (h.trans hx)), ih, if_pos hx]
   ·rw [if_neg hx, ih, if_neg hx]
theorem keys_st (l : List (Int × α)) (k : Int) (q : α) : keys (st l k q) = keys l := by
 simp only [keys, st, List.map_map]
 refine List.map_congr_left fun e _ => ?_
 simp only [Function.comp]
 split
 ·rename_i h
  exact h.symm
 ·rfl
theorem keys_wr {l : List (Int × α)} (h : (keys l).Nodup) (k : Int) (q : α) : (keys (wr l k q)).Nodup := by
 unfold wr
 split
 ·rw [keys_st]
  exact h
 ·rename_i hn
  have hn' : k ∉ keys l := fun hm => hn (gt_some.2 hm)
  rw [keys, List.map_append]
  refine List.nodup_append.2 ⟨h, by simp, fun a ha b hb e => hn' ?_⟩
  simp only [List.map_cons, List.map_nil, List.mem_cons, List.not_mem_nil, or_false] at hb
  rw [← hb, ← e]
  exact ha
theorem keys_rm {l : List (Int × α)} (h : (keys l).Nodup) (k : Int) : (keys (rm l k)).Nodup :=
 List.Nodup.sublist (List.Sublist.map _ List.filter_sublist) h
theorem rm_length (l : List (Int × α)) (k : Int) : (rm l k).length ≤ l.length := List.length_filter_le _ _
theorem mem_rm {l : List (Int × α)} {k : Int} {e : Int × α} (h : e ∈ rm l k) : e ∈ l := (List.mem_filter.1 h).1
theorem gt_mem {l : List (Int × α)} {k : Int} {q : α} (h : gt l k = some q) : (k, q) ∈ l := by
 induction l with
 | nil => cases h
 | cons e l ih =>
  rw [gt] at h
  split at h
  ·rename_i he
   cases h
   rw [← he]
   exact List.mem_cons_self
  ·exact List.mem_cons_of_mem _ (ih h)
theorem key_ne {x k : Int} (h : x ≠ k) : Lit.int .i64 x ≠ Lit.int .i64 k := by simpa using h
theorem isKey (k : Int) : WideAt.IsKeyLit (.int .i64 k) := trivial
def Rp (dat : α → DataW Unit) (z : α) (D : DataW Unit) (l : List (Int × α)) : Prop := ∀ k : Int, Maps.has D (.int .i64 k) = (gt l k).isSome ∧ D.atKey (.int .i64 k) (dat z) = dat ((gt l k).getD z)
variable {dat : α → DataW Unit} {z : α} {D : DataW Unit} {l : List (Int × α)}
theorem Rp.put (h : Rp dat z D l) (hm : Maps.IsMap D) (k : Int) (q : α) : Rp dat z (D.put (.int .i64 k) (dat q)) (wr l k q) := fun x => by
 rw [gt_wr]
 by_cases hx : x = k
 ·subst hx
  rw [if_pos rfl, Maps.has_put_same hm (isKey _), Maps.atKey_put_same hm (isKey _)]
  exact ⟨rfl, rfl⟩
 ·rw [if_neg hx, Maps.has_put_other (key_ne hx), Maps.atKey_put_other (key_ne hx)]
  exact h x
theorem Rp.del (h : Rp dat z D l) (k : Int) : Rp dat z (D.del (.int .i64 k)) (rm l k) := fun x => by
 rw [gt_rm]
 by_cases hx : x = k
 ·subst hx
  rw [if_pos rfl, Maps.has_del_same, Maps.atKey_del_same]
  exact ⟨rfl, rfl⟩
 ·rw [if_neg hx, Maps.has_del_other (key_ne hx), Maps.atKey_del_other (key_ne hx)]
  exact h x
theorem rp_empty (dat : α → DataW Unit) (z : α) : Rp dat z (.map []) [] := fun _ => ⟨rfl, rfl⟩
variable {P : Program} {kt : TypeId} {w : World} {b n : Nat} {R : Value → Option (DataW Unit × List MemPlace)}
theorem pkeys_perm (h : w.ownsMap P kt R b n D) (hk : P.underlying kt = some (.int .i64)) (hR : Rp dat z D l) (hn : (keys l).Nodup) : (keys l).Perm (intKeys D) := by
 have hC : CollectedI D (fun _ => false) (keys l) := ⟨hn, fun x => by rw [← gt_some, (hR x).1]; simp⟩
 exact hC.perm h (Maps.int_keyed hk) hk (fun _ => rfl)
theorem psize (h : w.ownsMap P kt R b n D) (hk : P.underlying kt = some (.int .i64)) (hR : Rp dat z D l) (hn : (keys l).Nodup) : Maps.size D = l.length := by
 have := (pkeys_perm h hk hR hn).length_eq
 rw [keys, List.length_map] at this
 rw [this]
 obtain ⟨es, rfl, _⟩ := h.entries (Maps.int_keyed hk)
 simp [intKeys, Maps.size]
theorem ptight (h : w.ownsMap P kt R b n D) (hk : P.underlying kt = some (.int .i64)) (hR : Rp dat z D l) (hn : (keys l).Nodup) : w.ownsMap P kt R b l.length D := by
 have e1 := psize h hk hR hn
 obtain ⟨es, clock, hb, F, hs, rfl⟩ := h
 refine ⟨es, clock, hb, F, ?_, rfl⟩
 have e2 : Maps.size _ ≤ l.length := Nat.le_of_eq e1
 simpa [Maps.size, length_sorted] using e2
theorem psorted (h : w.ownsMap P kt R b n D) (hk : P.underlying kt = some (.int .i64)) (hR : Rp dat z D l) (hn : (keys l).Nodup) {ss : List Int} (hp : ss.Perm (intKeys D)) : ss.mergeSort leI = (keys l).mergeSort leI :=
 mergeSort_of_perm_i (hp.trans (pkeys_perm h hk hR hn).symm)
end
end
section
def un1 (l : List (List Int)) : List Int := l.map hd
def sg (l : List Int) : List (List Int) := l.map fun z => [z]
theorem un1_sg (l : List Int) : un1 (sg l) = l := by
 rw [un1, sg, List.map_map]
 conv => rhs; rw [← List.map_id l]
 rfl
theorem sg_un1 {l : List (List Int)} (h : ∀ y ∈ l, y.length = 1) : sg (un1 l) = l := by
 rw [un1, sg, List.map_map]
 conv => rhs; rw [← List.map_id l]
 refine List.map_congr_left fun y hy => ?_
 match y, h y hy with
 | [z], _ => rfl
theorem sg_size (l : List Int) : ∀ y ∈ sg l, y.length = 1 := fun y hy => by
 obtain ⟨z, _, rfl⟩ := List.mem_map.1 hy
 rfl
theorem sg_length (l : List Int) : (sg l).length = l.length := by simp [sg]
theorem un1_length (l : List (List Int)) : (un1 l).length = l.length := by simp [un1]
structure Sf where
 par : Int
 syn : Bool
 pe : Sq
 ca : Sq
 no : Sq
abbrev Fo := List (Int × Sf)
def sqA : Sq := ⟨false, 0, [], [], false, true, [], false, [[0]], []⟩
def sf0 : Sf := ⟨0, false, sq0, sq0, sqA⟩
def lat (s : Sf) : List (List Int) := bif s.pe.ord then s.pe.od else bif s.ca.ord then s.ca.od else s.no.od
def ordS (l : List (List Int)) (s : Sf) : Sf := { s with pe := { s.pe with ord := true, od := l } }
def plcS (c : List Int) (s : Sf) : Sf := { s with pe := { s.pe with pl := put1 s.pe.pl c } }
def outL (id : Int) (l : List (List Int)) : List (List Int) := l.filter fun y => hd y != id
def outQ (id : Int) (q : Sq) : Sq := { q with od := outL id q.od, pl := outL id q.pl }
def outS (id : Int) (s : Sf) : Sf := { s with pe := outQ id s.pe, ca := outQ id s.ca, no := outQ id s.no }
theorem outL_sg (id : Int) (l : List Int) : outL id (sg l) = sg (dr id l) := by
 rw [outL, sg, List.filter_map, dr]
 rfl
def upd (F : Fo) (id : Int) (f : Sf → Sf) : Fo := match gt F id with
 | none => F
 | some s => st F id (f s)
theorem gt_upd (F : Fo) (id x : Int) (f : Sf → Sf) : gt (upd F id f) x = if x = id then (gt F id).map f else gt F x := by
 unfold upd
 cases h : gt F id with
 | none =>
  by_cases hx : x = id
  ·rw [if_pos hx, hx, h]; rfl
  ·rw [if_neg hx]
 | some s =>
  dsimp only
  rw [gt_st, h]
  rfl
theorem keys_upd (F : Fo) (id : Int) (f : Sf → Sf) : keys (upd F id f) = keys F := by
 unfold upd
 split
 ·rfl
 ·exact keys_st ..
theorem upd_length (F : Fo) (id : Int) (f : Sf → Sf) : (upd F id f).length = F.length := by
 have h := congrArg List.length (keys_upd F id f)
 simpa only [keys, List.length_map] using h
inductive Anc (F : Fo) : Int → Int → Prop
 | self {x : Int} {s : Sf} : gt F x = some s → Anc F x x
 | up {x id : Int} {s : Sf} : gt F x = some s → Anc F s.par id → Anc F x id
theorem anc_iff {F : Fo} {x id : Int} : Anc F x id ↔ ∃ s, gt F x = some s ∧ (x = id ∨ Anc F s.par id) := by
 constructor
 ·intro h
  cases h with
  | self h => exact ⟨_, h, .inl rfl⟩
  | up h h' => exact ⟨_, h, .inr h'⟩
 ·rintro ⟨s, h, rfl | h'⟩
  ·exact .self h
  ·exact .up h h'
inductive Syd (F : Fo) : Int → Prop
 | own {x : Int} {s : Sf} : gt F x = some s → s.par ≠ 0 → s.syn = true → Syd F x
 | up {x : Int} {s : Sf} : gt F x = some s → s.par ≠ 0 → Syd F s.par → Syd F x
theorem syd_iff {F : Fo} {x : Int} : Syd F x ↔ ∃ s, gt F x = some s ∧ s.par ≠ 0 ∧ (s.syn = true ∨ Syd F s.par) := by
 constructor
 ·intro h
  cases h with
  | own h h1 h2 => exact ⟨_, h, h1, .inl h2⟩
  | up h h1 h2 => exact ⟨_, h, h1, .inr h2⟩
 ·rintro ⟨s, h, h1, h2 | h2⟩
  ·exact .own h h1 h2
  ·exact .up h h1 h2
open Classical in
noncomputable def anc (F : Fo) (x id : Int) : Bool := decide (Anc F x id)
open Classical in
noncomputable def sy (F : Fo) (x : Int) : Bool := decide (Syd F x)
open Classical in
theorem anc_true {F : Fo} {x id : Int} : anc F x id = true ↔ Anc F x id := by
 unfold anc
 exact decide_eq_true_iff
open Classical in
theorem sy_true {F : Fo} {x : Int} : sy F x = true ↔ Syd F x := by
 unfold sy
 exact decide_eq_true_iff
theorem anc_none {F : Fo} {x : Int} (h : gt F x = none) (id : Int) : anc F x id = false := by
 rw [Bool.eq_false_iff, ne_eq, anc_true, anc_iff, h]
 simp
theorem anc_some {F : Fo} {x : Int} {s : Sf} (h : gt F x = some s) (id : Int) : anc F x id = (x == id || anc F s.par id) := by
 rw [Bool.eq_iff_iff, anc_true, anc_iff, h]
 simp [anc_true]
theorem sy_none {F : Fo} {x : Int} (h : gt F x = none) : sy F x = false := by
 rw [Bool.eq_false_iff, ne_eq, sy_true, syd_iff, h]
 simp
theorem sy_some {F : Fo} {x : Int} {s : Sf} (h : gt F x = some s) : sy F x = (s.par != 0 && (s.syn || sy F s.par)) := by
 rw [Bool.eq_iff_iff, sy_true, syd_iff, h]
 simp [sy_true]
def addE (F : Fo) (id : Int) : Nat := if id < 1 then 1 else if (gt F id).isSome then 5 else if 40 ≤ F.length then 4 else 0
def addF (F : Fo) (id : Int) : Fo := if addE F id = 0 then F ++ [(id, sf0)] else F
def unsE (F : Fo) (id : Int) : Nat := match gt F id with
 | none => 5
 | some s => if s.par = 0 then 10 else 0
def unsF (F : Fo) (id : Int) : Fo := match gt F id with
 | none => F
 | some s => if s.par = 0 then F else upd (upd F s.par (outS id)) id fun s => { s with par := 0 }
def drpE (F : Fo) (id : Int) : Nat := match gt F id with
 | none => 5
 | some _ => 0
def drpF (F : Fo) (id : Int) : Fo := match gt F id with
 | none => F
 | some _ => (rm (unsF F id) id).map fun e => (e.1, if e.2.par = id then { e.2 with par := 0 } else e.2)
noncomputable def subE (F : Fo) (id p : Int) : Nat := match gt F id, gt F p with
 | some s, some _ => if s.par ≠ 0 then 10 else if anc F p id then 11 else 0
 | _, _ => 5
noncomputable def subF (F : Fo) (id p : Int) : Fo := if subE F id p = 0 then upd (upd F id fun s => { s with par := p, syn := true }) p (fun q => plcS [id, 0, 0] (ordS (sg (dr id (un1 (lat q)) ++ [id])) q)) else F
def attS (b : Int) (s : Sf) : Sf := { s with pe := { s.pe with at_ := true, buf := b } }
def dmgS (r : List Int) (s : Sf) : Sf := { s with pe := { s.pe with dm := s.pe.dm ++ [r] } }
def frmS (c : Int) (s : Sf) : Sf := { s with pe := { s.pe with fr := s.pe.fr ++ [[c]] } }
def inpS (a : Bool) (l : List (List Int)) (s : Sf) : Sf := { s with pe := { s.pe with inp := true, all := a, rg := bif a then [] else l } }
def hasE (F : Fo) (id : Int) : Nat := match gt F id with
 | none => 5
 | some _ => 0
def edg (v : Int) : Int := min (max v (-16777216)) 16777216
def posF (F : Fo) (id x y : Int) : Fo := match gt F id with
 | none => F
 | some s => if s.par = 0 then F else upd F s.par (plcS [id, edg x, edg y])
def putL (F : Fo) (id by_ : Int) (b : Nat) : Option (Int × List Int) := match gt F id with
 | none => none
 | some s => if s.par = 0 then none else match gt F s.par with
  | none => none
  | some q => if by_ = s.par then (bes (un1 (lat q)) id 0 b).map fun m => (s.par, m) else if by_ = 0 then none else (bes (un1 (lat q)) id by_ b).map fun m => (s.par, m)
def putE (F : Fo) (id by_ : Int) (b : Nat) : Nat := match unsE F id with
 | 0 => match putL F id by_ b with
  | none => 11
  | some _ => 0
 | k => k
def putF (F : Fo) (id by_ : Int) (b : Nat) : Fo := match putL F id by_ b with
 | none => F
 | some (p, m) => upd F p (ordS (sg m))
def synF (F : Fo) (id : Int) (on : Bool) : Fo := match gt F id with
 | none => F
 | some s => if s.par = 0 then F else st F id { s with syn := on }
def aplS (s : Sf) : Sf := { s with no := apl s.no s.ca, ca := sq0 }
noncomputable def kds : Nat → Fo → Int → List Int → Fo × List Int
 | 0, F, _, l => (F, l)
 | n + 1, F, x, l => match gt F x with
  | none => (F, l)
  | some s => (un1 s.no.od).foldl (fun r k => match gt r.1 k with
   | none => r
   | some c => if k = 0 ∨ sy r.1 k = false then r else if non c.ca then kds n r.1 k r.2 else kds n (upd r.1 k aplS) k (r.2 ++ [k])) (F, l)
noncomputable def comF (n : Nat) (F : Fo) (id : Int) : Fo × List Int := match gt F id with
 | none => (F, [])
 | some _ => if sy F id then (upd F id fun s => { s with ca := mrg s.ca s.pe, pe := sq0 }, []) else kds n (upd F id fun s => { s with no := apl s.no (mrg s.ca s.pe), ca := sq0, pe := sq0 }) id [id]
def takS (s : Sf) : Sf := { s with no := { s.no with fr := [] } }
def takL (F : Fo) (id : Int) : List (List Int) := match gt F id with
 | none => []
 | some s => s.no.fr
def hldL (F : Fo) : List Int := F.flatMap fun e => (bif e.2.ca.at_ then [e.2.ca.buf] else []) ++ [e.2.no.buf]
def plx (k : Int) (l : List (List Int)) : Int × Int := match fnd k l with
 | some [_, x, y] => (x, y)
 | _ => (0, 0)
def wlk (F : Fo) : Nat → Int → Int → Int → List (List Int)
 | 0, _, _, _ => []
 | n + 1, id, x, y => match gt F id with
  | none => []
  | some s => if s.no.buf = 0 then [] else (un1 s.no.od).flatMap fun k => if k = 0 then [[id, x, y]] else wlk F n k (x + (plx k s.no.pl).1) (y + (plx k s.no.pl).2)
end
section
theorem Anc.trans {F : Fo} {x y z : Int} (h : Anc F x y) (h' : Anc F y z) : Anc F x z := by
 induction h with
 | self _ => exact h'
 | up h1 _ ih => exact .up h1 (ih h')
theorem Anc.has {F : Fo} {x y : Int} (h : Anc F x y) : (gt F x).isSome = true := by
 cases h with
 | self h => rw [h]; rfl
 | up h _ => rw [h]; rfl
theorem filter_lt {α : Type} {l : List α} {p q : α → Bool} (h : ∀ x, p x = true → q x = true) {a : α} (ha : a ∈ l) (hp : p a = false) (hq : q a = true) : (l.filter p).length < (l.filter q).length := by
 induction l with
 | nil => cases ha
 | cons x l ih =>
  have hle : ∀ l : List α, (l.filter p).length ≤ (l.filter q).length := fun l => by
   induction l with
   | nil => exact Nat.le_refl _
   | cons y l ih =>
    rw [List.filter_cons, List.filter_cons]
    cases hy : p y with
    | true => rw [h y hy]; simp only [if_true, List.length_cons]; omega
    | false =>
     rw [if_neg (by simp)]
     split
     ·rw [List.length_cons]; omega
     ·exact ih
  rw [List.filter_cons, List.filter_cons]
  rcases List.mem_cons.1 ha with rfl | ha
  ·rw [hp, hq, if_neg (by simp), if_pos rfl, List.length_cons]
   have := hle l
   omega
  ·have h1 := ih ha
   cases hy : p x with
   | true => rw [h x hy]; simp only [if_true, List.length_cons]; omega
   | false =>
    rw [if_neg (by simp)]
    split
    ·rw [List.length_cons]; omega
    ·exact h1
structure Acy (F : Fo) : Prop where
 no : ∀ x s, gt F x = some s → ¬ Anc F s.par x
 par : ∀ x s, gt F x = some s → s.par ≠ 0 → ∃ q, gt F s.par = some q
noncomputable def dpt (F : Fo) (x : Int) : Nat := ((keys F).filter fun y => anc F x y).length
theorem dpt_le (F : Fo) (x : Int) : dpt F x ≤ F.length := by
 refine Nat.le_trans (List.length_filter_le _ _) ?_
 rw [keys, List.length_map]
 exact Nat.le_refl _
theorem dpt_lt {F : Fo} (hA : Acy F) {x : Int} {s : Sf} (h : gt F x = some s) : dpt F s.par < dpt F x := by
 refine filter_lt (fun y hy => ?_) (a := x) (gt_some.1 (by rw [h]; rfl)) ?_ ?_
 ·exact anc_true.2 (.up h (anc_true.1 hy))
 ·rw [Bool.eq_false_iff, ne_eq, anc_true]
  exact hA.no x s h
 ·exact anc_true.2 (.self h)
structure Tre (F G : Fo) : Prop where
 keys : keys F = keys G
 same : ∀ x, (gt F x).map (fun s => (s.par, s.syn)) = (gt G x).map fun s => (s.par, s.syn)
theorem Tre.refl (F : Fo) : Tre F F := ⟨rfl, fun _ => rfl⟩
theorem Tre.symm {F G : Fo} (h : Tre F G) : Tre G F := ⟨h.keys.symm, fun x => (h.same x).symm⟩
theorem Tre.trans {F G H : Fo} (h : Tre F G) (h' : Tre G H) : Tre F H := ⟨h.keys.trans h'.keys, fun x => (h.same x).trans (h'.same x)⟩
theorem Tre.some {F G : Fo} (h : Tre F G) {x : Int} {s : Sf} (hs : gt F x = some s) : ∃ t, gt G x = some t ∧ t.par = s.par ∧ t.syn = s.syn := by
 have := h.same x
 rw [hs, Option.map_some] at this
 obtain ⟨t, ht, e⟩ := Option.map_eq_some_iff.1 this.symm
 simp only [Prod.mk.injEq] at e
 exact ⟨t, ht, e.1, e.2⟩
theorem Tre.none {F G : Fo} (h : Tre F G) {x : Int} (hs : gt F x = none) : gt G x = none := by
 have := h.same x
 rw [hs, Option.map_none] at this
 exact Option.map_eq_none_iff.1 this.symm
theorem Tre.anc {F G : Fo} (h : Tre F G) {x y : Int} (ha : Anc F x y) : Anc G x y := by
 induction ha with
 | self h1 =>
  obtain ⟨t, ht, _⟩ := h.some h1
  exact .self ht
 | up h1 _ ih =>
  obtain ⟨t, ht, e, _⟩ := h.some h1
  exact .up ht (by rw [e]; exact ih)
theorem Tre.syd {F G : Fo} (h : Tre F G) {x : Int} (ha : Syd F x) : Syd G x := by
 induction ha with
 | own h1 h2 h3 =>
  obtain ⟨t, ht, e, e'⟩ := h.some h1
  exact .own ht (by rw [e]; exact h2) (by rw [e']; exact h3)
 | up h1 h2 _ ih =>
  obtain ⟨t, ht, e, _⟩ := h.some h1
  exact .up ht (by rw [e]; exact h2) (by rw [e]; exact ih)
theorem Tre.sy {F G : Fo} (h : Tre F G) (x : Int) : sy F x = sy G x := by
 rw [Bool.eq_iff_iff, sy_true, sy_true]
 exact ⟨h.syd, h.symm.syd⟩
theorem Tre.dpt {F G : Fo} (h : Tre F G) (x : Int) : dpt F x = dpt G x := by
 unfold Go.Proofs.YtdgknofpkafppaaGreatDoor.dpt
 rw [h.keys]
 congr 1
 refine List.filter_congr fun y _ => ?_
 rw [Bool.eq_iff_iff, anc_true, anc_true]
 exact ⟨h.anc, h.symm.anc⟩
theorem Tre.acy {F G : Fo} (h : Tre F G) (hA : Acy F) : Acy G := by
 refine ⟨fun x s hs ha => ?_, fun x s hs hp => ?_⟩
 ·obtain ⟨t, ht, e, _⟩ := h.symm.some hs
  exact hA.no x t ht (by rw [e]; exact h.symm.anc ha)
 ·obtain ⟨t, ht, e, _⟩ := h.symm.some hs
  obtain ⟨q, hq⟩ := hA.par x t ht (by rw [e]; exact hp)
  rw [e] at hq
  obtain ⟨q', hq', _⟩ := h.some hq
  exact ⟨q', hq'⟩
theorem tre_upd (F : Fo) (id : Int) (f : Sf → Sf) (hf : ∀ s, (f s).par = s.par ∧ (f s).syn = s.syn) : Tre F (upd F id f) := by
 refine ⟨(keys_upd F id f).symm, fun x => ?_⟩
 rw [gt_upd]
 split
 ·rename_i h
  subst h
  cases hx : gt F x with
  | none => rfl
  | some s => simp [(hf s).1, (hf s).2]
 ·rfl
def Kok (F : Fo) (x : Int) (s : Sf) : Prop := ∀ k, (k ∈ un1 s.pe.od ∨ k ∈ un1 s.ca.od ∨ k ∈ un1 s.no.od) → k ≠ 0 → ∃ c, gt F k = some c ∧ c.par = x
structure Inv (F : Fo) : Prop where
 nod : (keys F).Nodup
 pos : ∀ x ∈ keys F, 1 ≤ x
 len : F.length ≤ 40
 acy : Acy F
 kid : ∀ x s, gt F x = some s → Kok F x s
theorem Inv.zero {F : Fo} (h : Inv F) : gt F 0 = none := gt_none.2 fun hm => by
 have := h.pos 0 hm
 omega
theorem Inv.pos' {F : Fo} (h : Inv F) {x : Int} {s : Sf} (hs : gt F x = some s) : 1 ≤ x := h.pos x (gt_some.1 (by rw [hs]; rfl))
theorem inv_nil : Inv [] := ⟨List.nodup_nil, (fun _ h => by cases h), by decide, ⟨(fun _ _ h => by cases h), fun _ _ h => by cases h⟩, fun _ _ h => by cases h⟩
theorem Inv.turn {F : Fo} (h : Inv F) (id : Int) (f : Sf → Sf) (hf : ∀ s, (f s).par = s.par ∧ (f s).syn = s.syn) (hk : ∀ s, gt F id = some s → Kok F id (f s)) : Inv (upd F id f) := by
 have ht := tre_upd F id f hf
 have hkk : ∀ x s, Kok F x s → Kok (upd F id f) x s := fun x s hs k hk h0 => by
  obtain ⟨c, h1, h2⟩ := hs k hk h0
  obtain ⟨t, h3, h4, _⟩ := ht.some h1
  exact ⟨t, h3, by rw [h4, h2]⟩
 refine ⟨by rw [keys_upd]; exact h.nod, by rw [keys_upd]; exact h.pos, by rw [upd_length]; exact h.len, ht.acy h.acy, fun x s hs => ?_⟩
 rw [gt_upd] at hs
 split at hs
 ·rename_i e
  subst e
  obtain ⟨t, h1, rfl⟩ := Option.map_eq_some_iff.1 hs
  exact hkk _ _ (hk t h1)
 ·exact hkk _ _ (h.kid x s hs)
end
section
theorem mem_un1_sg {k : Int} {l : List Int} : k ∈ un1 (sg l) ↔ k ∈ l := by rw [un1_sg]
theorem mem_outL {k id : Int} {l : List (List Int)} (h : k ∈ un1 (outL id l)) : k ∈ un1 l ∧ k ≠ id := by
 obtain ⟨y, hy, rfl⟩ := List.mem_map.1 h
 obtain ⟨h1, h2⟩ := List.mem_filter.1 hy
 exact ⟨List.mem_map_of_mem h1, by simpa using h2⟩
theorem Kok.pe {F : Fo} {x : Int} {s t : Sf} (h : Kok F x s) (h1 : t.pe.od = s.pe.od) (h2 : t.ca = s.ca) (h3 : t.no = s.no) : Kok F x t := fun k hk => h k (by rw [← h1, ← h2, ← h3]; exact hk)
theorem kok_lat {F : Fo} {x : Int} {s : Sf} (h : Kok F x s) {k : Int} (hk : k ∈ un1 (lat s)) (h0 : k ≠ 0) : ∃ c, gt F k = some c ∧ c.par = x := by
 unfold lat at hk
 cases h1 : s.pe.ord with
 | true => rw [h1] at hk; exact h k (.inl hk) h0
 | false =>
  rw [h1] at hk
  cases h2 : s.ca.ord with
  | true => rw [h2] at hk; exact h k (.inr (.inl hk)) h0
  | false => rw [h2] at hk; exact h k (.inr (.inr hk)) h0
theorem kok_ord {F : Fo} {x : Int} {s : Sf} (h : Kok F x s) {l : List Int} (hl : ∀ k ∈ l, k ≠ 0 → ∃ c, gt F k = some c ∧ c.par = x) : Kok F x (ordS (sg l) s) := fun k hk h0 => by
 rcases hk with hk | hk | hk
 ·exact hl k (mem_un1_sg.1 hk) h0
 ·exact h k (.inr (.inl hk)) h0
 ·exact h k (.inr (.inr hk)) h0
theorem Inv.pend {F : Fo} (h : Inv F) (id : Int) (f : Sf → Sf) (hf : ∀ s, (f s).par = s.par ∧ (f s).syn = s.syn ∧ (f s).pe.od = s.pe.od ∧ (f s).ca = s.ca ∧ (f s).no = s.no) : Inv (upd F id f) :=
 h.turn id f (fun s => ⟨(hf s).1, (hf s).2.1⟩) fun s hs => (h.kid id s hs).pe (hf s).2.2.1 (hf s).2.2.2.1 (hf s).2.2.2.2
theorem Inv.att {F : Fo} (h : Inv F) (id b : Int) : Inv (upd F id (attS b)) := h.pend id _ fun _ => ⟨rfl, rfl, rfl, rfl, rfl⟩
theorem Inv.dmg {F : Fo} (h : Inv F) (id : Int) (r : List Int) : Inv (upd F id (dmgS r)) := h.pend id _ fun _ => ⟨rfl, rfl, rfl, rfl, rfl⟩
theorem Inv.frm {F : Fo} (h : Inv F) (id c : Int) : Inv (upd F id (frmS c)) := h.pend id _ fun _ => ⟨rfl, rfl, rfl, rfl, rfl⟩
theorem Inv.inp {F : Fo} (h : Inv F) (id : Int) (a : Bool) (l : List (List Int)) : Inv (upd F id (inpS a l)) := h.pend id _ fun _ => ⟨rfl, rfl, rfl, rfl, rfl⟩
theorem Inv.plc {F : Fo} (h : Inv F) (id : Int) (c : List Int) : Inv (upd F id (plcS c)) := h.pend id _ fun _ => ⟨rfl, rfl, rfl, rfl, rfl⟩
theorem Inv.posn {F : Fo} (h : Inv F) (id x y : Int) : Inv (posF F id x y) := by
 unfold posF
 split
 ·exact h
 ·split
  ·exact h
  ·exact h.plc _ _
theorem Inv.tak {F : Fo} (h : Inv F) (id : Int) : Inv (upd F id takS) := h.turn id takS (fun _ => ⟨rfl, rfl⟩) fun s hs k hk => h.kid id s hs k hk
theorem mem_bes {l m : List Int} {id by_ : Int} {b : Nat} (h : bes l id by_ b = some m) : ∀ k ∈ m, k ∈ l := fun k hk => by
 unfold bes at h
 cases hx : zx id l with
 | none => rw [hx] at h; cases h
 | some t =>
  rw [hx] at h
  obtain ⟨i, _, rfl⟩ := Option.map_eq_some_iff.1 h
  unfold ins at hk
  rcases List.mem_append.1 hk with hk | hk
  ·exact (mem_dr.1 (List.mem_of_mem_take hk)).1
  ·rcases List.mem_cons.1 hk with rfl | hk
   ·exact List.mem_of_getElem? (zx_some hx).2.1
   ·exact (mem_dr.1 (List.mem_of_mem_drop hk)).1
theorem putL_some {F : Fo} {id by_ : Int} {b : Nat} {p : Int} {m : List Int} (h : putL F id by_ b = some (p, m)) : ∃ s q, gt F id = some s ∧ s.par = p ∧ p ≠ 0 ∧ gt F p = some q ∧ ∀ k ∈ m, k ∈ un1 (lat q) := by
 unfold putL at h
 split at h
 ·cases h
 ·rename_i s hs
  split at h
  ·cases h
  ·rename_i h0
   split at h
   ·cases h
   ·rename_i q hq
    split at h
    ·obtain ⟨m', hm, e⟩ := Option.map_eq_some_iff.1 h
     cases e
     exact ⟨s, q, hs, rfl, h0, hq, mem_bes hm⟩
    ·split at h
     ·cases h
     ·obtain ⟨m', hm, e⟩ := Option.map_eq_some_iff.1 h
      cases e
      exact ⟨s, q, hs, rfl, h0, hq, mem_bes hm⟩
theorem Inv.put {F : Fo} (h : Inv F) (id by_ : Int) (b : Nat) : Inv (putF F id by_ b) := by
 unfold putF
 split
 ·exact h
 ·rename_i p m hp
  obtain ⟨s, q, hs, hsp, h0, hq, hm⟩ := putL_some hp
  refine h.turn p _ (fun _ => ⟨rfl, rfl⟩) fun q' hq' => ?_
  rw [hq] at hq'
  cases hq'
  exact kok_ord (h.kid p q hq) fun k hk hk0 => kok_lat (h.kid p q hq) (hm k hk) hk0
theorem Inv.add {F : Fo} (h : Inv F) (id : Int) : Inv (addF F id) := by
 unfold addF
 split
 ·rename_i he
  unfold addE at he
  split at he
  ·cases he
  ·rename_i h1
   split at he
   ·cases he
   ·rename_i h2
    split at he
    ·cases he
    ·rename_i h3
     have hn : gt F id = none := by simpa using h2
     have hg : ∀ x, gt (F ++ [(id, sf0)]) x = if x = id then some sf0 else gt F x := fun x => by
      rw [gt_app]
      by_cases hx : x = id
      ·subst hx
       rw [hn]
       simp
      ·rw [if_neg hx]
       cases hgx : gt F x with
       | none => simp [show id ≠ x from fun e => hx e.symm]
       | some s => simp
     have hold : ∀ x s, gt F x = some s → gt (F ++ [(id, sf0)]) x = some s := fun x s hs => by
      rw [hg, if_neg (fun e => by rw [e, hn] at hs; cases hs)]
      exact hs
     have hkeys : keys (F ++ [(id, sf0)]) = keys F ++ [id] := by simp [keys]
     have hidn : id ∉ keys F := gt_none.1 hn
     have hanc : ∀ x y, Anc (F ++ [(id, sf0)]) x y → Anc F x y ∨ (x = id ∧ y = id) := fun x y ha => by
      induction ha with
      | self h1 =>
       rw [hg] at h1
       split at h1
       ·rename_i e
        exact .inr ⟨e, e⟩
       ·exact .inl (.self h1)
      | up h1 h2 ih =>
       rw [hg] at h1
       split at h1
       ·cases h1
        have := h2.has
        rw [hg] at this
        split at this
        ·rename_i e
         exact absurd e.symm (by show id ≠ 0; omega)
        ·rw [show (sf0.par) = 0 from rfl, h.zero] at this
         cases this
       ·rcases ih with ih | ⟨e1, e2⟩
        ·exact .inl (.up h1 ih)
        ·rename_i x' id' s' hne
         have hp0 : s'.par ≠ 0 := by rw [e1]; omega
         obtain ⟨q, hq⟩ := h.acy.par _ _ h1 hp0
         rw [e1, hn] at hq
         cases hq
     refine ⟨?_, ?_, ?_, ⟨fun x s hs ha => ?_, fun x s hs hp => ?_⟩, fun x s hs k hk h0 => ?_⟩
     ·rw [hkeys, List.nodup_append]
      refine ⟨h.nod, by simp, fun a ha b hb e => ?_⟩
      simp only [List.mem_singleton] at hb
      exact hidn (by rw [← hb, ← e]; exact ha)
     ·intro x hx
      rw [hkeys, List.mem_append] at hx
      rcases hx with hx | hx
      ·exact h.pos x hx
      ·simp only [List.mem_singleton] at hx
       omega
     ·rw [List.length_append, List.length_singleton]
      omega
     ·rw [hg] at hs
      split at hs
      ·cases hs
       have := ha.has
       rw [hg] at this
       split at this
       ·rename_i e
        exact absurd e.symm (by show id ≠ 0; omega)
       ·rw [show (sf0.par) = 0 from rfl, h.zero] at this
        cases this
      ·rename_i hne
       rcases hanc _ _ ha with ha | ⟨_, e⟩
       ·exact h.acy.no x s hs ha
       ·exact hne e
     ·rw [hg] at hs
      split at hs
      ·cases hs
       exact absurd rfl hp
      ·obtain ⟨q, hq⟩ := h.acy.par x s hs hp
       exact ⟨q, hold _ _ hq⟩
     ·rw [hg] at hs
      split at hs
      ·cases hs
       rcases hk with hk | hk | hk
       ·cases hk
       ·cases hk
       ·have : k = 0 := by simpa [un1, sf0, sqA, hd] using hk
        exact absurd this h0
      ·obtain ⟨c, h4, h5⟩ := h.kid x s hs k hk h0
       exact ⟨c, hold _ _ h4, h5⟩
 ·exact h
end
end Go.Proofs.YtdgknofpkafppaaGreatDoor
