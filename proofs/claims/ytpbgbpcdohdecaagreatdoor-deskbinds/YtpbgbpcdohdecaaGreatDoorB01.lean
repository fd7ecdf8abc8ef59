/- Lemmas that the proof leans on. -/
import Derived.Test.YtpbgbpcdohdecaaGreatDoorB00
import Derived.Deep.DeepCutAuto
import Derived.Lib.SlKeysI
import Derived.Laws.CopyOwn
import Derived.BigQuiet
import Derived.Lib.Builder
namespace Go.Proofs.YtpbgbpcdohdecaaGreatDoor
open Go Go.RowKit
set_option maxRecDepth 100000
section
structure RdM (m : Nat) (w : World) (a : Option Addr) (n c : Nat) (l : List (List Int)) : Prop where
 len : l.length = n
 le : n ≤ c
 max : c ≤ maxLen
 hnil : a = none → c = 0
 pl : 0 < n → ∃ b off, a = some ⟨b, off, none⟩ ∧ b < w.heap.size ∧ ∀ j y, l[j]? = some y → ∀ i z, y[i]? = some z → w.cell? ⟨b, off + (j * m + i), none⟩ = some (.int .i64 z)
 size : ∀ y ∈ l, y.length = m
theorem RdM.kp {m : Nat} {w u : World} {a : Option Addr} {n c : Nat} {l : List (List Int)} (h : RdM m w a n c l) {X : List Nat} (hb : Kp X w u) (hX : ∀ x, a = some x → 0 < n → x.block ∉ X) : RdM m u a n c l :=
 ⟨h.len, h.le, h.max, h.hnil, fun hn => by
  obtain ⟨b, off, e, h1, h2⟩ := h.pl hn
  exact ⟨b, off, e, Nat.lt_of_lt_of_le h1 hb.size, fun j y hy i z hz => hb.cell (h2 j y hy i z hz) (hX ⟨b, off, none⟩ e hn)⟩, h.size⟩
theorem RdM.nil (m : Nat) (w : World) : RdM m w none 0 0 [] := ⟨rfl, Nat.le_refl _, Nat.zero_le _, fun _ => rfl, fun h => absurd h (by omega), by simp⟩
theorem RdM.small {m : Nat} {w : World} {a : Option Addr} {n c : Nat} {l : List (List Int)} (h : RdM m w a n c l) : n ≤ 9223372036854775807 ∧ c ≤ 9223372036854775807 := by
 have h1 := h.le
 have h2 := h.max
 simp only [maxLen] at h2
 omega
theorem RdM.at_ {m : Nat} {w : World} {a : Option Addr} {n c : Nat} {l : List (List Int)} (h : RdM m w a n c l) {j : Nat} (hj : j < n) : ∃ b off y, a = some ⟨b, off, none⟩ ∧ b < w.heap.size ∧ l[j]? = some y ∧ y.length = m ∧ ∀ i z, y[i]? = some z → w.cell? ⟨b, off + (j * m + i), none⟩ = some (.int .i64 z) := by
 have hl := h.len
 obtain ⟨b, off, e, h1, h2⟩ := h.pl (by omega)
 have hr : l[j]? = some l[j] := List.getElem?_eq_getElem (by omega)
 exact ⟨b, off, _, e, h1, hr, h.size _ (List.mem_of_getElem? hr), h2 j _ hr⟩
def mcs (l : List (List Int)) : List Value := l.flatMap fun y => y.map (Value.int .i64)
def hd_StaA (y : List Int) : Int := y.getD 0 0
structure Sq where
 at_ : Bool
 buf : Int
 dm : List (List Int)
 fr : List (List Int)
 inp : Bool
 all : Bool
 rg : List (List Int)
 ord : Bool
 od : List (List Int)
 pl : List (List Int)
end
section
def ic (l : List Int) : List Value := l.map (Value.int .i64)
theorem ic_append (a b : List Int) : ic (a ++ b) = ic a ++ ic b := by simp [ic]
theorem ic_one (l : List Int) : ∀ u ∈ ic l, u.oneCell' = true := by
 intro u hu
 obtain ⟨_, _, rfl⟩ := List.mem_map.1 hu
 rfl
structure Rz (w : World) (a : Option Addr) (n c : Nat) (l : List Int) : Prop where
 len : l.length = n
 le : n ≤ c
 max : c ≤ maxLen
 hnil : a = none → c = 0
 pl : 0 < n → ∃ b off, a = some ⟨b, off, none⟩ ∧ b < w.heap.size ∧ ∀ j z, l[j]? = some z → w.cell? ⟨b, off + j, none⟩ = some (.int .i64 z)
theorem Rz.nil (w : World) : Rz w none 0 0 [] := ⟨rfl, Nat.le_refl _, Nat.zero_le _, fun _ => rfl, fun h => absurd h (by omega)⟩
structure OwZ (w u : World) (v : Value) (l : List Int) : Prop where
 own : u.ownsRow w.heap.size 3 1 v l.length (ic l)
 bel : Below w.heap.size w u
theorem OwZ.rd {w u : World} {v : Value} {l : List Int} (h : OwZ w u v l) : ∃ a c, v = .slice a l.length c ∧ Rz u a l.length c l ∧ ∀ x, a = some x → w.heap.size ≤ x.block ∧ x.block < u.heap.size := by
 rcases h.own.2 with ⟨rfl, h0⟩ | ⟨g, cap, cur, rfl, hb, hg, hn, hm, _, _⟩
 ·have hl := List.eq_nil_of_length_eq_zero h0
  subst hl
  exact ⟨none, 0, rfl, Rz.nil u, fun x hx => by cases hx⟩
 ·refine ⟨some ⟨g, 0, none⟩, cap, rfl, ⟨rfl, hn, hm, (fun h => by cases h), fun _ => ⟨g, 0, rfl, (h.own.lt g rfl).2, fun j z hz => ?_⟩⟩, fun x hx => ?_⟩
  ·have hj := (List.getElem?_eq_some_iff.1 hz).1
   rw [Nat.zero_add, h.own.cellAt _ (by omega), ic, List.getElem?_map, hz]
   rfl
  ·cases hx
   exact ⟨hb, (Array.getElem?_eq_some_iff.1 hg).1⟩
theorem srcLit (w : World) (z : Int) : Src Tryz.prog 1 120 (.slice (some ⟨w.heap.size, 0, none⟩) 1 1) 1 (ic [z]) (w.alloc (.cells #[.int .i64 z] 3)) :=
 Src.ofSlice (P := Tryz.prog) _ Tryz.underlying120 ⟨w.heap.size, 0, none⟩ 1 1 (ic [z]) rfl (fun q u hu => by
  match q, hu with
  | 0, hu => cases hu; simp [Addr.add]
  | q + 1, hu => simp [ic] at hu) (ic_one _)
end
section
section
variable {α : Type}
def gt : List (Int × α) → Int → Option α
 | [], _ => none
 | e :: l, k => if e.1 = k then some e.2 else gt l k
def st (l : List (Int × α)) (k : Int) (q : α) : List (Int × α) := l.map fun e => if e.1 = k then (k, q) else e
def rm (l : List (Int × α)) (k : Int) : List (Int × α) := l.filter fun e => decide (e.1 ≠ k)
def keys (l : List (Int × α)) : List Int := l.map (·.1)
def wr (l : List (Int × α)) (k : Int) (q : α) : List (Int × α) := if (gt l k).isSome then st l k q else l ++ [(k, q)]
theorem gt_none {l : List (Int × α)} {k : Int} : gt l k = none ↔ k ∉ keys l := by
 induction l with
 | nil => simp [gt, keys]
 | cons e l ih =>
  simp only [gt, keys, List.map_cons, List.mem_cons, not_or]
  split
  ·rename_i h
   simp [h]
  ·rename_i h
   rw [ih, keys]
   exact ⟨fun q => ⟨fun x => h x.symm, q⟩, fun q => q.2⟩
theorem gt_some {l : List (Int × α)} {k : Int} : (gt l k).isSome = true ↔ k ∈ keys l := by
 cases h : gt l k with
 | none => simp [gt_none.1 h]
 | some q =>
  have : ¬ k ∉ keys l := fun h' => by rw [gt_none.2 h'] at h; cases h
  simpa using this
theorem gt_app (l : List (Int × α)) (k x : Int) (q : α) : gt (l ++ [(k, q)]) x = if (gt l x).isSome then gt l x else if k = x then some q else none := by
 induction l with
 | nil => simp [gt]
 | cons e l ih =>
  simp only [List.cons_append, gt]
  split
  ·simp
  ·exact ih
theorem gt_st (l : List (Int × α)) (k x : Int) (q : α) : gt (st l k q) x = if x = k then (gt l k).map (fun _ => q) else gt l x := by
 induction l with
 | nil => simp [gt, st]
 | cons e l ih =>
  simp only [st, List.map_cons, gt] at ih ⊢
  by_cases he : e.1 = k
  ·rw [if_pos he, if_pos he]
   by_cases hx : x = k
   ·rw [if_pos hx.symm, if_pos hx]
    simp
   ·rw [if_neg (fun h => hx h.symm), if_neg hx, ih, if_neg hx, if_neg (fun h => hx (h.symm.trans he))]
  ·rw [if_neg he, if_neg he]
   by_cases hx : x = k
   ·subst hx
    rw [if_neg he, ih, if_pos rfl, if_pos rfl]
   ·rw [if_neg hx, ih, if_neg hx]
theorem gt_wr (l : List (Int × α)) (k x : Int) (q : α) : gt (wr l k q) x = if x = k then some q else gt l x := by
 unfold wr
 split
 ·rename_i h
  rw [gt_st]
  by_cases hx : x = k
  ·rw [if_pos hx, if_pos hx]
   obtain ⟨q', hq'⟩ := Option.isSome_iff_exists.1 h
   rw [hq']
   rfl
  ·rw [if_neg hx, if_neg hx]
 ·rename_i h
  rw [gt_app]
  by_cases hx : x = k
  ·subst hx
   rw [if_neg h, if_pos rfl, if_pos rfl]
  ·rw [if_neg hx]
   cases hg : gt l x with
   | none => simp [show k ≠ x from fun h => hx h.symm]
   | some q => simp
theorem gt_rm (l : List (Int × α)) (k x : Int) : gt (rm l k) x = if x = k then none else gt l x := by
 induction l with
 | nil => simp [gt, rm]
 | cons e l ih =>
  simp only [rm, List.filter_cons, gt] at ih ⊢
  by_cases he : e.1 = k
  ·rw [if_neg (by simpa using he), ih]
   by_cases hx : x = k
   ·rw [if_pos hx, if_pos hx]
   ·rw [if_neg hx, if_neg hx, if_neg (fun h => hx (h.symm.trans he))]
  ·rw [if_pos (by simpa using he)]
   simp only [gt]
   by_cases hx : x = k
   ·rw [if_pos hx, if_neg (fun h => he (h.trans hx)), ih, if_pos hx]
   ·rw [if_neg hx, ih, if_neg hx]
theorem keys_st (l : List (Int × α)) (k : Int) (q : α) : keys (st l k q) = keys l := by
 simp only [keys, st, List.map_map]
 refine List.map_congr_left fun e _ => ?_
 simp only [Function.comp]
 split
 ·rename_i h
  exact h.symm
 ·rfl
theorem keys_wr {l : List (Int × α)} (h : (keys l).Nodup) (k : Int) (q : α) : (keys (wr l k q)).Nodup := by
 unfold wr
 split
 ·rw [keys_st]
  exact h
 ·rename_i hn
  have hn' : k ∉ keys l := fun hm => hn (gt_some.2 hm)
  rw [keys, List.map_append]
  refine List.nodup_append.2 ⟨h, by simp, fun a ha b hb e => hn' ?_⟩
  simp only [List.map_cons, List.map_nil, List.mem_cons, List.not_mem_nil, or_false] at hb
  rw [← hb, ← e]
  exact ha
theorem wr_length (l : List (Int × α)) (k : Int) (q : α) : (wr l k q).length ≤ l.length + 1 := by
 unfold wr
 split
 ·simp [st]
 ·simp
theorem gt_mem {l : List (Int × α)} {k : Int} {q : α} (h : gt l k = some q) : (k, q) ∈ l := by
 induction l with
 | nil => cases h
 | cons e l ih =>
  rw [gt] at h
  split at h
  ·rename_i he
   cases h
   rw [← he]
   exact List.mem_cons_self
  ·exact List.mem_cons_of_mem _ (ih h)
theorem key_ne_LibM {x k : Int} (h : x ≠ k) : Lit.int .i64 x ≠ Lit.int .i64 k := by simpa using h
theorem isKey_LibM (k : Int) : WideAt.IsKeyLit (.int .i64 k) := trivial
def Rp (dat : α → DataW Unit) (z : α) (D : DataW Unit) (l : List (Int × α)) : Prop := ∀ k : Int, Maps.has D (.int .i64 k) = (gt l k).isSome ∧ D.atKey (.int .i64 k) (dat z) = dat ((gt l k).getD z)
variable {dat : α → DataW Unit} {z : α} {D : DataW Unit} {l : List (Int × α)}
theorem Rp.put (h : Rp dat z D l) (hm : Maps.IsMap D) (k : Int) (q : α) : Rp dat z (D.put (.int .i64 k) (dat q)) (wr l k q) := fun x => by
 rw [gt_wr]
 by_cases hx : x = k
 ·subst hx
  rw [if_pos rfl, Maps.has_put_same hm (isKey_LibM _), Maps.atKey_put_same hm (isKey_LibM _)]
  exact ⟨rfl, rfl⟩
 ·rw [if_neg hx, Maps.has_put_other (key_ne_LibM hx), Maps.atKey_put_other (key_ne_LibM hx)]
  exact h x
theorem Rp.del (h : Rp dat z D l) (k : Int) : Rp dat z (D.del (.int .i64 k)) (rm l k) := fun x => by
 rw [gt_rm]
 by_cases hx : x = k
 ·subst hx
  rw [if_pos rfl, Maps.has_del_same, Maps.atKey_del_same]
  exact ⟨rfl, rfl⟩
 ·rw [if_neg hx, Maps.has_del_other (key_ne_LibM hx), Maps.atKey_del_other (key_ne_LibM hx)]
  exact h x
theorem rp_empty (dat : α → DataW Unit) (z : α) : Rp dat z (.map []) [] := fun _ => ⟨rfl, rfl⟩
variable {P : Program} {kt : TypeId} {w : World} {b n : Nat} {R : Value → Option (DataW Unit × List MemPlace)}
theorem pkeys_perm (h : w.ownsMap P kt R b n D) (hk : P.underlying kt = some (.int .i64)) (hR : Rp dat z D l) (hn : (keys l).Nodup) : (keys l).Perm (intKeys D) := by
 have hC : CollectedI D (fun _ => false) (keys l) := ⟨hn, fun x => by rw [← gt_some, (hR x).1]; simp⟩
 exact hC.perm h (Maps.int_keyed hk) hk (fun _ => rfl)
theorem psize (h : w.ownsMap P kt R b n D) (hk : P.underlying kt = some (.int .i64)) (hR : Rp dat z D l) (hn : (keys l).Nodup) : Maps.size D = l.length := by
 have := (pkeys_perm h hk hR hn).length_eq
 rw [keys, List.length_map] at this
 rw [this]
 obtain ⟨es, rfl, _⟩ := h.entries (Maps.int_keyed hk)
 simp [intKeys, Maps.size]
theorem ptight (h : w.ownsMap P kt R b n D) (hk : P.underlying kt = some (.int .i64)) (hR : Rp dat z D l) (hn : (keys l).Nodup) : w.ownsMap P kt R b l.length D := by
 have e1 := psize h hk hR hn
 obtain ⟨es, clock, hb, F, hs, rfl⟩ := h
 refine ⟨es, clock, hb, F, ?_, rfl⟩
 have e2 : Maps.size _ ≤ l.length := Nat.le_of_eq e1
 simpa [Maps.size, length_sorted] using e2
theorem psorted (h : w.ownsMap P kt R b n D) (hk : P.underlying kt = some (.int .i64)) (hR : Rp dat z D l) (hn : (keys l).Nodup) {ss : List Int} (hp : ss.Perm (intKeys D)) : ss.mergeSort leI = (keys l).mergeSort leI :=
 mergeSort_of_perm_i (hp.trans (pkeys_perm h hk hR hn).symm)
end
end
section
def un1 (l : List (List Int)) : List Int := l.map hd_StaA
structure Sf where
 par : Int
 syn : Bool
 pe : Sq
 ca : Sq
 no : Sq
abbrev Fo := List (Int × Sf)
inductive Anc (F : Fo) : Int → Int → Prop
 | self {x : Int} {s : Sf} : gt F x = some s → Anc F x x
 | up {x id : Int} {s : Sf} : gt F x = some s → Anc F s.par id → Anc F x id
def hldL (F : Fo) : List Int := F.flatMap fun e => (bif e.2.ca.at_ then [e.2.ca.buf] else []) ++ [e.2.no.buf]
end
section
structure Wn where
 step : Nat
 ser : List Int
abbrev Wo := List (Int × Wn)
structure Wfew (m : Nat) (F : Wo) : Prop where
 nd : (keys F).Nodup
 len : F.length ≤ m
 ser : ∀ x e, gt F x = some e → e.ser.length ≤ m
variable {m : Nat} {F : Wo}
theorem wfew_nil : Wfew 0 [] := ⟨List.nodup_nil, Nat.le_refl _, fun x e h => by cases h⟩
theorem Wfew.mono (h : Wfew m F) {n : Nat} (hn : m ≤ n) : Wfew n F := ⟨h.nd, Nat.le_trans h.len hn, fun x e he => Nat.le_trans (h.ser x e he) hn⟩
end
section
abbrev Ris (l : List Int) : Prop := l.Pairwise (· < ·)
theorem ris_ext : ∀ {l m : List Int}, Ris l → Ris m → (∀ x, x ∈ l ↔ x ∈ m) → l = m
 | [], [], _, _, _ => rfl
 | [], b :: m, _, _, h => absurd ((h b).2 List.mem_cons_self) (by simp)
 | a :: l, [], _, _, h => absurd ((h a).1 List.mem_cons_self) (by simp)
 | a :: l, b :: m, h1, h2, h => by
  obtain ⟨p1, q1⟩ := List.pairwise_cons.1 h1
  obtain ⟨p2, q2⟩ := List.pairwise_cons.1 h2
  have e : a = b := by
   rcases List.mem_cons.1 ((h a).1 List.mem_cons_self) with e | e
   ·exact e
   ·rcases List.mem_cons.1 ((h b).2 List.mem_cons_self) with e' | e'
    ·exact e'.symm
    ·have := p2 a e
     have := p1 b e'
     omega
  subst e
  rw [ris_ext q1 q2 (fun x => ⟨fun hx => by
   rcases List.mem_cons.1 ((h x).1 (List.mem_cons_of_mem _ hx)) with e | e
   ·have := p1 x hx
    omega
   ·exact e, fun hx => by
   rcases List.mem_cons.1 ((h x).2 (List.mem_cons_of_mem _ hx)) with e | e
   ·have := p2 x hx
    omega
   ·exact e⟩)]
theorem ris_nodup {l : List Int} (h : Ris l) : l.Nodup := h.imp (fun h e => by omega)
theorem ris_le {l : List Int} (h : Ris l) : l.Pairwise (· ≤ ·) := h.imp (fun h => Int.le_of_lt h)
theorem ris_filter {l : List Int} (h : Ris l) (f : Int → Bool) : Ris (l.filter f) := List.Pairwise.sublist List.filter_sublist h
theorem sorted_merge_UseA {s : List Int} (h : s.Pairwise (· ≤ ·)) : s.mergeSort leI = s := List.mergeSort_of_pairwise (h.imp (fun h => by simpa [leI] using h))
theorem merge_sorted_UseA (l : List Int) : (l.mergeSort leI).Pairwise (· ≤ ·) := by
 have tr : ∀ a b c : Int, leI a b = true → leI b c = true → leI a c = true := fun a b c h1 h2 => by simp only [leI, decide_eq_true_eq] at *; omega
 have tt : ∀ a b : Int, (leI a b || leI b a) = true := fun a b => by simp only [leI, Bool.or_eq_true, decide_eq_true_eq]; omega
 exact (List.pairwise_mergeSort tr tt l).imp (fun h => by simpa [leI] using h)
theorem merge_ris {l : List Int} (h : l.Nodup) : Ris (l.mergeSort leI) := by
 have hn : (l.mergeSort leI).Nodup := (List.mergeSort_perm l leI).nodup_iff.2 h
 exact List.Pairwise.imp₂ (fun a b h1 h2 => by omega) (merge_sorted_UseA l) hn
def nwk (zs : List Int) : List Int := zs.foldl (fun l x => if 0 < x ∧ x ∉ l then l ++ [x] else l) []
theorem nwk_snoc (zs : List Int) (x : Int) : nwk (zs ++ [x]) = if 0 < x ∧ x ∉ nwk zs then nwk zs ++ [x] else nwk zs := by
 rw [nwk, List.foldl_append]
 rfl
theorem snoc_ind {P : List Int → Prop} (h0 : P []) (h1 : ∀ l x, P l → P (l ++ [x])) (l : List Int) : P l := by
 have : ∀ m : List Int, P m.reverse := fun m => by
  induction m with
  | nil => exact h0
  | cons a m ih =>
   rw [List.reverse_cons]
   exact h1 _ _ ih
 have h := this l.reverse
 rwa [List.reverse_reverse] at h
theorem mem_nwk (zs : List Int) (x : Int) : x ∈ nwk zs ↔ 0 < x ∧ x ∈ zs := by
 induction zs using snoc_ind with
 | h0 => simp [nwk]
 | h1 l y ih =>
  rw [nwk_snoc]
  split
  ·rename_i h
   rw [List.mem_append, ih, List.mem_append]
   constructor
   ·rintro (⟨h1, h2⟩ | h1)
    ·exact ⟨h1, .inl h2⟩
    ·simp only [List.mem_cons, List.not_mem_nil, or_false] at h1
     subst h1
     exact ⟨h.1, .inr (by simp)⟩
   ·rintro ⟨h1, h2 | h2⟩
    ·exact .inl ⟨h1, h2⟩
    ·exact .inr h2
  ·rename_i h
   rw [ih, List.mem_append]
   constructor
   ·rintro ⟨h1, h2⟩
    exact ⟨h1, .inl h2⟩
   ·rintro ⟨h1, h2 | h2⟩
    ·exact ⟨h1, h2⟩
    ·simp only [List.mem_cons, List.not_mem_nil, or_false] at h2
     subst h2
     have h3 : x ∈ nwk l := Decidable.byContradiction fun h4 => h ⟨h1, h4⟩
     exact ih.1 h3
theorem nwk_nodup (zs : List Int) : (nwk zs).Nodup := by
 induction zs using snoc_ind with
 | h0 => simp [nwk]
 | h1 l y ih =>
  rw [nwk_snoc]
  split
  ·rename_i h
   refine List.nodup_append.2 ⟨ih, by simp, fun a ha b hb e => ?_⟩
   simp only [List.mem_cons, List.not_mem_nil, or_false] at hb
   subst hb e
   exact h.2 ha
  ·exact ih
theorem nwk_length (zs : List Int) : (nwk zs).length ≤ zs.length := by
 induction zs using snoc_ind with
 | h0 => simp [nwk]
 | h1 l y ih =>
  rw [nwk_snoc]
  split <;> simp <;> omega
def setOf (zs : List Int) : List Int := (nwk zs).mergeSort leI
theorem mem_setOf (zs : List Int) (x : Int) : x ∈ setOf zs ↔ 0 < x ∧ x ∈ zs := by rw [setOf, List.mem_mergeSort, mem_nwk]
theorem setOf_ris (zs : List Int) : Ris (setOf zs) := merge_ris (nwk_nodup zs)
theorem setOf_eq {zs L : List Int} (h : Ris L) (hm : ∀ x, x ∈ L ↔ 0 < x ∧ x ∈ zs) : setOf zs = L := ris_ext (setOf_ris zs) h (fun x => by rw [mem_setOf, hm])
theorem setOf_nil : setOf [] = [] := setOf_eq List.Pairwise.nil (by simp)
def gone (L zs : List Int) : List Int := L.filter fun x => decide (x ∉ zs)
theorem mem_gone (L zs : List Int) (x : Int) : x ∈ gone L zs ↔ x ∈ L ∧ x ∉ zs := by simp [gone]
theorem gone_ris {L : List Int} (h : Ris L) (zs : List Int) : Ris (gone L zs) := ris_filter h _
theorem gone_length (L zs : List Int) : (gone L zs).length ≤ L.length := List.length_filter_le _ _
theorem gone_nil (L : List Int) : gone L [] = L := by simp [gone]
theorem gone_snoc {L : List Int} (zs : List Int) (x : Int) : gone L (zs ++ [x]) = (gone L zs).filter fun y => decide (y ≠ x) := by
 rw [gone, gone, List.filter_filter]
 refine List.filter_congr fun y _ => ?_
 simp only [List.mem_append, List.mem_cons, List.not_mem_nil, or_false, not_or, ne_eq, Bool.decide_and]
 rw [Bool.and_comm]
def un (l : List Int) : List (Int × Unit) := l.map fun x => (x, ())
theorem keys_un (l : List Int) : keys (un l) = l := by rw [keys, un, List.map_map]; exact List.map_id l
theorem un_length (l : List Int) : (un l).length = l.length := by simp [un]
theorem gt_un (l : List Int) (k : Int) : gt (un l) k = if k ∈ l then some () else none := by
 cases h : gt (un l) k with
 | none =>
  have := gt_none.1 h
  rw [keys_un] at this
  rw [if_neg this]
 | some q =>
  have h1 : (gt (un l) k).isSome = true := by rw [h]; rfl
  have := gt_some.1 h1
  rw [keys_un] at this
  rw [if_pos this]
theorem rp_congr {α : Type} {dat : α → DataW Unit} {z : α} {D : DataW Unit} {l m : List (Int × α)} (h : Rp dat z D l) (e : ∀ k, gt l k = gt m k) : Rp dat z D m := fun k => by rw [← e k]; exact h k
def bmp (T : List (Int × Int)) (x : Int) : List (Int × Int) := wr T x ((gt T x).getD 0 + 1)
structure Cnt (T : List (Int × Int)) (told : List Int) : Prop where
 nd : (keys T).Nodup
 len : T.length ≤ told.length
 cnt : ∀ x, (gt T x).getD 0 = (told.count x : Int)
theorem Cnt.one {T : List (Int × Int)} {told : List Int} (h : Cnt T told) (x : Int) : Cnt (bmp T x) (told ++ [x]) :=
 ⟨keys_wr h.nd x _, by rw [List.length_append]; exact Nat.le_trans (wr_length _ _ _) (Nat.add_le_add_right h.len 1), fun y => by
  rw [bmp, gt_wr, List.count_append]
  by_cases e : y = x
  ·subst e
   rw [if_pos rfl, Option.getD_some, h.cnt]
   simp
  ·rw [if_neg e, h.cnt, List.count_singleton]
   have : (x == y) = false := by simpa using fun h => e h.symm
   simp [this]⟩
theorem cnt0 : Cnt [] [] := ⟨List.nodup_nil, Nat.le_refl _, fun _ => rfl⟩
end
section
structure Rc where
 x : Int
 y : Int
 w : Int
 h : Int
def I64_RectA (v : Int) : Prop := -9223372036854775808 ≤ v ∧ v ≤ 9223372036854775807
structure Rc.Ok (a : Rc) : Prop where
 x : -9223372036854775808 ≤ a.x ∧ a.x ≤ 9223372036854775807
 y : -9223372036854775808 ≤ a.y ∧ a.y ≤ 9223372036854775807
 w : -9223372036854775808 ≤ a.w ∧ a.w ≤ 9223372036854775807
 h : -9223372036854775808 ≤ a.h ∧ a.h ≤ 9223372036854775807
def rz : Rc := ⟨0, 0, 0, 0⟩
def emp (a : Rc) : Bool := decide (a.w < 1) || decide (a.h < 1)
def wth (at_ size n : Int) : Bool := decide (at_ ≤ n) && decide (n - at_ < size)
def en (at_ size : Int) : Int := if at_ + size ≤ 9223372036854775807 then at_ + size else 9223372036854775807
theorem ret_int_RectA {k : IntKind} {a b : Int} (h : a = b) : Ending.returned (.int k a) = .returned (.int k b) := by rw [h]
theorem ret_bool_RectA {a b : Bool} (h : a = b) : Ending.returned (.bool a) = .returned (.bool b) := by rw [h]
def ed (at_ size : Int) : Int := if at_ + size ≤ 16777216 then at_ + size else 16777216
theorem empty_any (a : Rc) (w : World) : Calls Tryz.prog 166 #[.agg #[.int .i64 a.x, .int .i64 a.y, .int .i64 a.w, .int .i64 a.h]] w fun e w' => e = .returned (.bool (emp a)) ∧ Below w.heap.size w w' := by
 go_enter Tryz.func166, Tryz.ntmps166
 go_wp2
 ·go_ret
  exact ⟨rfl, (Below.refl _ _).alloc (Nat.le_refl _) _⟩
 ·go_ret
  exact ⟨by simp [emp, *], (Below.refl _ _).alloc (Nat.le_refl _) _⟩
theorem end_any (at_ size : Int) (ha : -9223372036854775808 ≤ at_ ∧ at_ ≤ 9223372036854775807) (hs : 1 ≤ size ∧ size ≤ 9223372036854775807) (w : World) :
  Calls Tryz.prog 167 #[.int .i64 at_, .int .i64 size] w fun e w' => e = .returned (.int .i64 (en at_ size)) ∧ w' = w := by
 go_enter Tryz.func167, Tryz.ntmps167
 go_wp2
 go_ret
 exact ⟨ret_int_RectA (by unfold en; split <;> omega), rfl⟩
end
section
def has (a : Rc) (x y : Int) : Bool := !emp a && wth a.x a.w x && wth a.y a.h y
def sh (a : Rc) (x y : Int) : Rc := if emp a = true then rz else ⟨a.x + x, a.y + y, a.w, a.h⟩
def oft (x0 y0 x1 y1 : Int) : Rc := if x1 ≤ x0 ∨ y1 ≤ y0 then rz else ⟨x0, y0, x1 - x0, y1 - y0⟩
def cut (a b : Rc) : Rc := if emp a = true ∨ emp b = true then rz else oft (max a.x b.x) (max a.y b.y) (min (en a.x a.w) (en b.x b.w)) (min (en a.y a.h) (en b.y b.h))
theorem sizes {a : Rc} (h : emp a = false) : 1 ≤ a.w ∧ 1 ≤ a.h := by
 simp only [emp, Bool.or_eq_false_iff, decide_eq_false_iff_not, Int.not_lt] at h
 exact h
structure Bx (u : World) (p : Nat) (a : Rc) : Prop where
 obj : u.heap[p]? = some (.cells #[.int .i64 a.x, .int .i64 a.y, .int .i64 a.w, .int .i64 a.h] 97 (0, 0))
theorem Bx.lt {u : World} {p : Nat} {a : Rc} (h : Bx u p a) : p < u.heap.size := (Array.getElem?_eq_some_iff.1 h.obj).1
theorem Bx.all {u : World} {p : Nat} {a : Rc} (h : Bx u p a) : u.cell? ⟨p, 0, none⟩ = some (.int .i64 a.x) ∧ u.cell? ⟨p, 1, none⟩ = some (.int .i64 a.y) ∧ u.cell? ⟨p, 2, none⟩ = some (.int .i64 a.w) ∧ u.cell? ⟨p, 3, none⟩ = some (.int .i64 a.h) := by
 refine ⟨?_, ?_, ?_, ?_⟩ <;> (rw [World.cell?, h.obj]; rfl)
theorem Bx.fz {u : World} {p : Nat} {a : Rc} (h : Bx u p a) (k : Nat) : u.frozen? ⟨p, k, none⟩ = false := Lib.frozen_of_heap h.obj k
theorem Bx.on {u v : World} {p : Nat} {a : Rc} (h : Bx u p a) (hb : Below u.heap.size u v) : Bx v p a := ⟨by rw [hb.block p h.lt]; exact h.obj⟩
theorem Bx.drew {u : World} {p : Nat} {a : Rc} (h : Bx u p a) : Bx u.drew p a := ⟨h.obj⟩
theorem bx_new (w : World) (a : Rc) : Bx (w.alloc (.cells #[.int .i64 a.x, .int .i64 a.y, .int .i64 a.w, .int .i64 a.h] 97)) w.heap.size a := ⟨heap_alloc_new w _⟩
theorem below_new (w : World) (o : Obj) : Below w.heap.size w (w.alloc o) := (Below.refl _ _).alloc (Nat.le_refl _) _
def ob (a : Rc) : Obj := .cells #[.int .i64 a.x, .int .i64 a.y, .int .i64 a.w, .int .i64 a.h] 97
theorem size_ob (w : World) (a : Rc) : (w.alloc (ob a)).heap.size = w.heap.size + 1 := by simp [ob]
theorem box1 {w u : World} (a : Rc) (hb : Below (w.alloc (ob a)).heap.size (w.alloc (ob a)) u) : Bx u w.heap.size a ∧ Below w.heap.size w u :=
 ⟨(bx_new w a).on hb, Below.on (below_new _ _) hb⟩
theorem box2 {w u : World} (a b : Rc) (hb : Below ((w.alloc (ob a)).alloc (ob b)).heap.size ((w.alloc (ob a)).alloc (ob b)) u) : Bx u w.heap.size a ∧ Bx u (w.heap.size + 1) b ∧ Below w.heap.size w u := by
 obtain ⟨h1, h2⟩ := box1 b hb
 obtain ⟨h3, h4⟩ := box1 a h2
 rw [size_ob] at h1
 exact ⟨h3, h1, h4⟩
theorem box3 {w u : World} (a b c : Rc) (hb : Below (((w.alloc (ob a)).alloc (ob b)).alloc (ob c)).heap.size (((w.alloc (ob a)).alloc (ob b)).alloc (ob c)) u) : Bx u w.heap.size a ∧ Bx u (w.heap.size + 1) b ∧ Bx u (w.heap.size + 1 + 1) c ∧ Below w.heap.size w u := by
 obtain ⟨h1, h2⟩ := box1 c hb
 obtain ⟨h3, h4, h5⟩ := box2 a b h2
 rw [size_ob, size_ob] at h1
 exact ⟨h3, h4, h1, h5⟩
def st4 (u : World) (p : Nat) (a : Rc) : World := (((u.setCell ⟨p, 0, none⟩ (.int .i64 a.x)).setCell ⟨p, 1, none⟩ (.int .i64 a.y)).setCell ⟨p, 2, none⟩ (.int .i64 a.w)).setCell ⟨p, 3, none⟩ (.int .i64 a.h)
theorem Bx.st {u : World} {p : Nat} {a : Rc} (h : Bx u p a) (b : Rc) : Bx (st4 u p b) p b :=
 ⟨heap_setCell_same _ p 3 _ _ _ (heap_setCell_same _ p 2 _ _ _ (heap_setCell_same _ p 1 _ _ _ (heap_setCell_same _ p 0 _ _ _ h.obj)))⟩
theorem below_st {w u : World} {B p : Nat} (h : Below B w u) (hp : B ≤ p) (a : Rc) : Below B w (st4 u p a) := (((h.setCell hp _).setCell hp _).setCell hp _).setCell hp _
theorem infoR : (Tryz.prog.info? 97).map (·.size) = some 4 := by kernel_rfl
end
section
def nx (k : Int) : List Int → Option Int
 | x :: y :: t => if x = k then some y else nx k (y :: t)
 | _ => none
end
section
def pon : Option (Int × Int) → Bool
 | none => false
 | some _ => true
def psr : Option (Int × Int) → Int
 | none => 0
 | some x => x.1
def ptk : Option (Int × Int) → Int
 | none => 0
 | some x => x.2
end
section
abbrev Pl_PolB := Int × Int
structure Nf where
 k : Int
 o : Int
 w : Int
 h : Int
 s : Int
 f : Int
abbrev Bf := Nf × Bool
def nf0 : Nf := ⟨0, 0, 0, 0, 0, 0⟩
def pld (q : Pl_PolB) : DataW Unit := .agg [.lit (.int .i64 q.1), .lit (.int .i64 q.2)]
def plR_PolB : Value → Option (DataW Unit × List MemPlace)
 | .agg cs => match cs.toList with
  | [.int .i64 f, .int .i64 v] => some (.agg [.lit (.int .i64 f), .lit (.int .i64 v)], [])
  | _ => none
 | _ => none
def bfd (q : Bf) : DataW Unit := .agg [.lit (.int .i64 q.1.k), .lit (.int .i64 q.1.o), .lit (.int .i64 q.1.w), .lit (.int .i64 q.1.h), .lit (.int .i64 q.1.s), .lit (.int .i64 q.1.f), .lit (.int .i64 (if q.2 then 1 else 0))]
def bfR : Value → Option (DataW Unit × List MemPlace)
 | .agg cs => match cs.toList with
  | [.int .i64 a, .int .i64 b, .int .i64 c, .int .i64 e, .int .i64 f, .int .i64 g, .bool d] => some (bfd (⟨a, b, c, e, f, g⟩, d), [])
  | _ => none
 | _ => none
abbrev PL := List (Int × Pl_PolB)
abbrev BL := List (Int × Bf)
structure Okp (p : PL) (b : BL) : Prop where
 pn : (keys p).Nodup
 bn : (keys b).Nodup
 sz : ∀ e ∈ p, 1 ≤ e.2.2 ∧ e.2.2 ≤ 65536
theorem okp0 : Okp [] [] := ⟨List.nodup_nil, List.nodup_nil, fun _ h => by cases h⟩
end
section
def objR : Value → Option (DataW Unit × List MemPlace)
 | .agg cs => match cs.toList with
  | [.int .i64 f, .int .i64 v] => some (.agg [.lit (.int .i64 f), .lit (.int .i64 v)], [])
  | _ => none
 | _ => none
def dat (q : Int × Int) : DataW Unit := .agg [.lit (.int .i64 q.1), .lit (.int .i64 q.2)]
def obv (q : Int × Int) : Value := .agg #[.int .i64 q.1, .int .i64 q.2]
theorem objR_mk (q : Int × Int) : objR (obv q) = some (dat q, []) := rfl
theorem objR_inv {x : Value} {q : Int × Int} {ps : List MemPlace} (h : objR x = some (dat q, ps)) : x = obv q := by
 unfold objR at h
 split at h
 ·rename_i cs
  split at h
  ·rename_i f v he
   simp only [Option.some.injEq, Prod.mk.injEq, dat, DataW.agg.injEq, List.cons.injEq, DataW.lit.injEq, Lit.int.injEq, true_and, and_true] at h
   obtain ⟨⟨rfl, rfl⟩, _⟩ := h
   have : cs = #[.int .i64 q.1, .int .i64 q.2] := by
    apply Array.ext'
    rw [he]
   rw [this]
   rfl
  ·cases h
 ·cases h
def Rep (D : DataW Unit) (s : Int → Int × Int) : Prop := ∀ k : Int, Maps.has D (.int .i64 k) = decide ((s k).1 ≠ 0) ∧ D.atKey (.int .i64 k) (dat (0, 0)) = dat (s k)
def upd_IdsA (s : Int → Int × Int) (k : Int) (q : Int × Int) : Int → Int × Int := fun x => if x = k then q else s x
theorem upd_same (s : Int → Int × Int) (k : Int) (q : Int × Int) : upd_IdsA s k q k = q := by simp [upd_IdsA]
theorem upd_other (s : Int → Int × Int) {k x : Int} (h : x ≠ k) (q : Int × Int) : upd_IdsA s k q x = s x := by simp [upd_IdsA, h]
theorem key_ne_IdsA {x k : Int} (h : x ≠ k) : Lit.int .i64 x ≠ Lit.int .i64 k := by simpa using h
theorem isKey_IdsA (k : Int) : WideAt.IsKeyLit (.int .i64 k) := trivial
theorem Rep.put {D : DataW Unit} {s : Int → Int × Int} (h : Rep D s) (hm : Maps.IsMap D) (k : Int) (q : Int × Int) (hq : q.1 ≠ 0) : Rep (D.put (.int .i64 k) (dat q)) (upd_IdsA s k q) := fun x => by
 by_cases hx : x = k
 ·subst hx
  rw [upd_same, Maps.has_put_same hm (isKey_IdsA _), Maps.atKey_put_same hm (isKey_IdsA _), decide_eq_true hq]
  exact ⟨rfl, rfl⟩
 ·rw [upd_other s hx, Maps.has_put_other (key_ne_IdsA hx), Maps.atKey_put_other (key_ne_IdsA hx)]
  exact h x
theorem rep_empty : Rep (.map []) (fun _ => (0, 0)) := fun _ => ⟨rfl, rfl⟩
structure Gd_IdsA (s : Int → Int × Int) : Prop where
 dom : ∀ k, (s k).1 ≠ 0 → 1 ≤ k ∧ k ≤ 255
 zero : ∀ k, (s k).1 = 0 → s k = (0, 0)
 pos : ∀ k, 0 ≤ (s k).1 ∧ (s k).1 ≤ 17
theorem Gd_IdsA.upd {s : Int → Int × Int} (h : Gd_IdsA s) {k : Int} (hk : 1 ≤ k ∧ k ≤ 255) {q : Int × Int} (hq : 1 ≤ q.1 ∧ q.1 ≤ 17) : Gd_IdsA (upd_IdsA s k q) := by
 refine ⟨fun x hx => ?_, fun x hx => ?_, fun x => ?_⟩
 all_goals by_cases e : x = k
 ·rw [e]; exact hk
 ·rw [upd_other s e] at hx; exact h.dom x hx
 ·rw [e, upd_same] at hx; omega
 ·rw [upd_other s e] at hx ⊢; exact h.zero x hx
 ·rw [e, upd_same]; omega
 ·rw [upd_other s e]; exact h.pos x
def s0 : Int → Int × Int := upd_IdsA (fun _ => (0, 0)) 1 (1, 1)
theorem gd0 : Gd_IdsA s0 := Gd_IdsA.upd ⟨fun k h => absurd rfl h, fun _ _ => rfl, fun _ => by decide⟩ (by decide) (by decide)
def idl_IdsA : List Int := (List.range 255).map fun i => ((i + 1 : Nat) : Int)
def keysOf (s : Int → Int × Int) : List Int := idl_IdsA.filter fun k => decide ((s k).1 ≠ 0)
theorem mem_idl_IdsA {x : Int} : x ∈ idl_IdsA ↔ 1 ≤ x ∧ x ≤ 255 := by
 simp only [idl_IdsA, List.mem_map, List.mem_range]
 constructor
 ·rintro ⟨i, hi, rfl⟩
  omega
 ·intro h
  exact ⟨(x - 1).toNat, by omega, by omega⟩
theorem idl_rising_IdsA : idl_IdsA.Pairwise (· < ·) := by
 rw [idl_IdsA, List.pairwise_map]
 exact List.pairwise_lt_range.imp (fun h => by omega)
theorem idl_len_IdsA : idl_IdsA.length = 255 := by simp [idl_IdsA]
theorem mem_keysOf {s : Int → Int × Int} (h : Gd_IdsA s) {x : Int} : x ∈ keysOf s ↔ (s x).1 ≠ 0 := by
 rw [keysOf, List.mem_filter, mem_idl_IdsA, decide_eq_true_eq]
 exact ⟨fun h => h.2, fun hx => ⟨h.dom x hx, hx⟩⟩
theorem keysOf_rising (s : Int → Int × Int) : (keysOf s).Pairwise (· < ·) := idl_rising_IdsA.filter _
theorem keysOf_len (s : Int → Int × Int) : (keysOf s).length ≤ 255 := by
 rw [← idl_len_IdsA]
 exact List.length_filter_le _ _
variable {P : Program} {kt : TypeId} {w : World} {b n : Nat} {D : DataW Unit} {s : Int → Int × Int}
theorem keys_perm' (h : w.ownsMap P kt objR b n D) (hk : P.underlying kt = some (.int .i64)) (hR : Rep D s) (hg : Gd_IdsA s) : (keysOf s).Perm (intKeys D) := by
 have hC : CollectedI D (fun _ => false) (keysOf s) := ⟨(keysOf_rising s).imp (fun h => by omega), fun x => by
  rw [mem_keysOf hg, (hR x).1, decide_eq_true_eq]
  simp⟩
 exact hC.perm h (Maps.int_keyed hk) hk (fun _ => rfl)
theorem size_of_keys (h : w.ownsMap P kt objR b n D) (hk : P.underlying kt = some (.int .i64)) (hR : Rep D s) (hg : Gd_IdsA s) : Maps.size D = (keysOf s).length := by
 rw [(keys_perm' h hk hR hg).length_eq]
 obtain ⟨es, rfl, _⟩ := h.entries (Maps.int_keyed hk)
 simp [intKeys, Maps.size]
theorem tight (h : w.ownsMap P kt objR b n D) (hk : P.underlying kt = some (.int .i64)) (hR : Rep D s) (hg : Gd_IdsA s) : w.ownsMap P kt objR b 255 D := by
 have e1 := size_of_keys h hk hR hg
 have e2 := keysOf_len s
 obtain ⟨es, clock, hb, F, hs, rfl⟩ := h
 refine ⟨es, clock, hb, F, ?_, rfl⟩
 rw [← e1] at e2
 simpa [Maps.size, length_sorted] using e2
def addE_IdsA (s : Int → Int × Int) (id f v : Int) : Nat := if f < 1 ∨ 17 < f ∨ v < 1 then 1 else if id ≤ 1 ∨ 255 < id ∨ (s id).1 ≠ 0 then 5 else 0
def addS (s : Int → Int × Int) (id f v : Int) : Int → Int × Int := if addE_IdsA s id f v = 0 then upd_IdsA s id (f, v) else s
end
end Go.Proofs.YtpbgbpcdohdecaaGreatDoor
