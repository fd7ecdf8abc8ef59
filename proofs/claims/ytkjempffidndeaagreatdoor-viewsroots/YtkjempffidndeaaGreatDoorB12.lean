/- Lemmas that the proof leans on. -/
import Derived.Test.YtkjempffidndeaaGreatDoorB11
namespace Go.Proofs.YtkjempffidndeaaGreatDoor
open Go Go.RowKit
set_option maxRecDepth 100000
set_option maxHeartbeats 4000000
section
theorem rapply_any (x y : Sx) (w : World) (okx : x.Ok w) (oky : y.Ok w) (lx : x.Len 1000) (ly : y.Len 1000) : Calls Tryz.prog 103 #[.agg #[.bool x.at_, .int .i64 x.buf, .slice x.dm.a x.dm.n x.dm.c, .slice x.fr.a x.fr.n x.fr.c, .bool x.inp, .bool x.all, .slice x.rg.a x.rg.n x.rg.c, .bool x.ord, .slice x.od.a x.od.n x.od.c, .slice x.pl.a x.pl.n x.pl.c], .agg #[.bool y.at_, .int .i64 y.buf, .slice y.dm.a y.dm.n y.dm.c, .slice y.fr.a y.fr.n y.fr.c, .bool y.inp, .bool y.all, .slice y.rg.a y.rg.n y.rg.c, .bool y.ord, .slice y.od.a y.od.n y.od.c, .slice y.pl.a y.pl.n y.pl.c]] w (Rst w (apl x.q y.q)) := by
 have hb3 : Below w.heap.size w (((w.alloc (.cells #[.bool x.at_, .int .i64 x.buf, .slice x.dm.a x.dm.n x.dm.c, .slice x.fr.a x.fr.n x.fr.c, .bool x.inp, .bool x.all, .slice x.rg.a x.rg.n x.rg.c, .bool x.ord, .slice x.od.a x.od.n x.od.c, .slice x.pl.a x.pl.n x.pl.c] 72)).alloc (.cells #[.bool y.at_, .int .i64 y.buf, .slice y.dm.a y.dm.n y.dm.c, .slice y.fr.a y.fr.n y.fr.c, .bool y.inp, .bool y.all, .slice y.rg.a y.rg.n y.rg.c, .bool y.ord, .slice y.od.a y.od.n y.od.c, .slice y.pl.a y.pl.n y.pl.c] 72)).alloc (.cells #[.bool sx0.at_, .int .i64 sx0.buf, .slice sx0.dm.a sx0.dm.n sx0.dm.c, .slice sx0.fr.a sx0.fr.n sx0.fr.c, .bool sx0.inp, .bool sx0.all, .slice sx0.rg.a sx0.rg.n sx0.rg.c, .bool sx0.ord, .slice sx0.od.a sx0.od.n sx0.od.c, .slice sx0.pl.a sx0.pl.n sx0.pl.c] 72)) := Below.on (Below.on (bel_new _ _) (bel_new _ _)) (bel_new _ _)
 have CM := hid (rmerge_any x y _ (okx.on hb3) (oky.on hb3) lx ly)
 have hz := bs_new ((w.alloc (.cells #[.bool x.at_, .int .i64 x.buf, .slice x.dm.a x.dm.n x.dm.c, .slice x.fr.a x.fr.n x.fr.c, .bool x.inp, .bool x.all, .slice x.rg.a x.rg.n x.rg.c, .bool x.ord, .slice x.od.a x.od.n x.od.c, .slice x.pl.a x.pl.n x.pl.c] 72)).alloc (.cells #[.bool y.at_, .int .i64 y.buf, .slice y.dm.a y.dm.n y.dm.c, .slice y.fr.a y.fr.n y.fr.c, .bool y.inp, .bool y.all, .slice y.rg.a y.rg.n y.rg.c, .bool y.ord, .slice y.od.a y.od.n y.od.c, .slice y.pl.a y.pl.n y.pl.c] 72)) sx0
 simp only [size_new] at hz
 have HZ := hid hz
 have HB := hid hb3
 clear okx oky lx ly hb3 hz
 go_enter Tryz.func103, Tryz.ntmps103
 go_wp2_with fail
 refine CM.out.mono ?_
 rintro e w1 ⟨r, rfl, okr, hnr, hq, hb⟩
 have HR := hid okr
 have HQ := hid hq
 simp only [size_new] at hnr
 have HZ1 := hid (HZ.out.on hb)
 have HN := hid hnr.end_
 have HB1 := hid (Below.on HB.out hb)
 have hlt := HZ1.out.lt
 clear okr hnr hq hb CM HB HZ
 obtain ⟨ra, rb, rc, rd, re, rf, rg, rh, ri, rj⟩ := HZ1.out.all
 have fz := HZ1.out.fz
 go_wp2
 have hZ := (HZ1.out.stz r.end_).on (bel_new _ (.cells #[.bool false, .int .i64 r.buf, .slice none 0 0, .slice r.fr.a r.fr.n r.fr.c, .bool false, .bool r.all, .slice r.rg.a r.rg.n r.rg.c, .bool false, .slice r.od.a r.od.n r.od.c, .slice r.pl.a r.pl.n r.pl.c] 72))
 refine bodyPost_ret (results_cell_row rfl _ _ (w.heap.size + 1 + 1) _ _ _ _ rfl hZ.bk.obj Tryz.underlying72 rfl infoSt) rfl ?_
 refine ⟨r.end_, rfl, (HR.out.end_.stz HN.out (show w.heap.size + 1 + 1 < w.heap.size + 1 + 1 + 1 by omega) r.end_).on (bel_new _ _), HN.out.low (by omega), ?_, Below.on (below_stz HB1.out (show w.heap.size ≤ w.heap.size + 1 + 1 by omega) r.end_) (bel_new _ _)⟩
 have h := HQ.out
 rw [apl, ← h]
 rfl
structure Sx.Off (x : Sx) (P : Nat) : Prop where
 dm : ∀ y, x.dm.a = some y → 0 < x.dm.n → y.block ≠ P
 fr : ∀ y, x.fr.a = some y → 0 < x.fr.n → y.block ≠ P
 rg : ∀ y, x.rg.a = some y → 0 < x.rg.n → y.block ≠ P
 od : ∀ y, x.od.a = some y → 0 < x.od.n → y.block ≠ P
 pl : ∀ y, x.pl.a = some y → 0 < x.pl.n → y.block ≠ P
theorem rdm_off {m : Nat} {u : World} {s : Sl} {P : Nat} (h : RdM m u s.a s.n s.c s.l) (hP : u.heap.size ≤ P) : ∀ y, s.a = some y → 0 < s.n → y.block ≠ P := fun y hy hn => by
 obtain ⟨b, off, e, hlt, _⟩ := h.pl hn
 rw [hy] at e
 cases e
 show b ≠ P
 omega
theorem off_old {x : Sx} {u : World} {P : Nat} (h : x.Ok u) (hP : u.heap.size ≤ P) : x.Off P := ⟨rdm_off h.dm hP, rdm_off h.fr hP, rdm_off h.rg hP, rdm_off h.od hP, rdm_off h.pl hP⟩
theorem off_new {x : Sx} {B P : Nat} (h : x.New B) (hP : P < B) : x.Off P := ⟨fun y e _ => by have := h.dm y e; omega, fun y e _ => by have := h.fr y e; omega, fun y e _ => by have := h.rg y e; omega, fun y e _ => by have := h.od y e; omega, fun y e _ => by have := h.pl y e; omega⟩
theorem kp_stz (u : World) (q : Nat) (r : Sx) : Kp [q] u (stz u q r) := (((((((((((Kp.refl [q] u).set ⟨q, 0, none⟩ (by simp) _).set ⟨q, 1, none⟩ (by simp) _).set ⟨q, 2, none⟩ (by simp) _).set ⟨q, 3, none⟩ (by simp) _).set ⟨q, 4, none⟩ (by simp) _).set ⟨q, 5, none⟩ (by simp) _).set ⟨q, 6, none⟩ (by simp) _).set ⟨q, 7, none⟩ (by simp) _).set ⟨q, 8, none⟩ (by simp) _).set ⟨q, 9, none⟩ (by simp) _)
theorem Sx.Ok.kpo {x : Sx} {u v : World} {P : Nat} (h : x.Ok u) (ho : x.Off P) (hk : Kp [P] u v) : x.Ok v :=
 ⟨h.dm.kp hk (fun y e n hm => ho.dm y e n (by simpa using hm)), h.fr.kp hk (fun y e n hm => ho.fr y e n (by simpa using hm)), h.rg.kp hk (fun y e n hm => ho.rg y e n (by simpa using hm)), h.od.kp hk (fun y e n hm => ho.od y e n (by simpa using hm)), h.pl.kp hk (fun y e n hm => ho.pl y e n (by simpa using hm))⟩
end
section
structure Sr where
 par : Int
 syn : Bool
 pe : Sx
 ca : Sx
 no : Sx
def Sr.f (s : Sr) : Sf := ⟨s.par, s.syn, s.pe.q, s.ca.q, s.no.q⟩
abbrev Ro := List (Int × Sr)
def abs (L : Ro) : Fo := L.map fun e => (e.1, e.2.f)
theorem abs_keys (L : Ro) : keys (abs L) = keys L := by simp [abs, keys]
theorem abs_length (L : Ro) : (abs L).length = L.length := by simp [abs]
theorem gt_abs (L : Ro) (x : Int) : gt (abs L) x = (gt L x).map Sr.f := by
 induction L with
 | nil => rfl
 | cons e L ih =>
  rw [abs, List.map_cons, gt, gt]
  split
  ·rfl
  ·exact ih
theorem abs_st (L : Ro) (id : Int) (s : Sr) : abs (st L id s) = st (abs L) id s.f := by
 rw [abs, st, st, abs, List.map_map, List.map_map]
 refine List.map_congr_left fun e _ => ?_
 simp only [Function.comp]
 split <;> rfl
theorem abs_upd {L : Ro} {id : Int} {s : Sr} (hs : gt L id = some s) (f : Sf → Sf) (s' : Sr) (h : s'.f = f s.f) : abs (st L id s') = upd (abs L) id f := by
 rw [abs_st, upd, gt_abs, hs, h]
 rfl
def sxc (x : Sx) : List Value := [.bool x.at_, .int .i64 x.buf, .slice x.dm.a x.dm.n x.dm.c, .slice x.fr.a x.fr.n x.fr.c, .bool x.inp, .bool x.all, .slice x.rg.a x.rg.n x.rg.c, .bool x.ord, .slice x.od.a x.od.n x.od.c, .slice x.pl.a x.pl.n x.pl.c]
def scs (e : Int × Sr) : List Value := [.int .i64 e.1, .int .i64 e.2.par, .bool e.2.syn] ++ (sxc e.2.pe ++ (sxc e.2.ca ++ sxc e.2.no))
theorem scs_length (e : Int × Sr) : (scs e).length = 33 := rfl
def rcs (L : Ro) : List Value := L.flatMap scs
theorem rcs_nil : rcs [] = [] := rfl
theorem rcs_cons (e : Int × Sr) (L : Ro) : rcs (e :: L) = scs e ++ rcs L := rfl
theorem rcs_append (L M : Ro) : rcs (L ++ M) = rcs L ++ rcs M := by simp [rcs]
theorem rcs_length (L : Ro) : (rcs L).length = L.length * 33 := by
 induction L with
 | nil => rfl
 | cons e L ih => rw [rcs_cons, List.length_append, scs_length, ih, List.length_cons]; omega
theorem rcs_one (L : Ro) : ∀ u ∈ rcs L, u.oneCell' = true := by
 intro u hu
 obtain ⟨e, _, he⟩ := List.mem_flatMap.1 hu
 simp only [scs, sxc, List.mem_append, List.mem_cons, List.not_mem_nil, or_false] at he
 rcases he with (rfl | rfl | rfl) | (rfl | rfl | rfl | rfl | rfl | rfl | rfl | rfl | rfl | rfl) | (rfl | rfl | rfl | rfl | rfl | rfl | rfl | rfl | rfl | rfl) | (rfl | rfl | rfl | rfl | rfl | rfl | rfl | rfl | rfl | rfl) <;> rfl
theorem rcs_at {L : Ro} {i : Nat} {e : Int × Sr} (h : L[i]? = some e) {j : Nat} (hj : j < 33) : (rcs L)[i * 33 + j]? = (scs e)[j]? := by
 induction L generalizing i with
 | nil => simp at h
 | cons x L ih =>
  rw [rcs_cons]
  cases i with
  | zero =>
   simp only [List.getElem?_cons_zero, Option.some.injEq] at h
   subst h
   rw [Nat.zero_mul, Nat.zero_add, List.getElem?_append_left (by rw [scs_length]; exact hj)]
  | succ i =>
   rw [List.getElem?_append_right (by rw [scs_length]; omega), scs_length, show (i + 1) * 33 + j - 33 = i * 33 + j by omega]
   exact ih (by simpa using h)
theorem rcs_set {L : Ro} {i : Nat} {e : Int × Sr} (h : L[i]? = some e) {j : Nat} (hj : j < 33) (v : Value) (e' : Int × Sr) (he : scs e' = (scs e).set j v) : rcs (L.set i e') = (rcs L).set (i * 33 + j) v := by
 induction L generalizing i with
 | nil => simp at h
 | cons x L ih =>
  cases i with
  | zero =>
   simp only [List.getElem?_cons_zero, Option.some.injEq] at h
   subst h
   rw [List.set_cons_zero, rcs_cons, rcs_cons, he, Nat.zero_mul, Nat.zero_add, List.set_append_left _ _ (by rw [scs_length]; exact hj)]
  | succ i =>
   rw [List.set_cons_succ, rcs_cons, rcs_cons, ih (by simpa using h), List.set_append_right _ _ (by rw [scs_length]; omega), scs_length, show (i + 1) * 33 + j - 33 = i * 33 + j by omega]
theorem at_key {L : Ro} {id : Int} {s : Sr} (h : gt L id = some s) : ∃ i : Nat, L[i]? = some (id, s) ∧ (∀ (j : Nat) (e : Int × Sr), j < i → L[j]? = some e → e.1 ≠ id) := by
 induction L with
 | nil => cases h
 | cons e L ih =>
  rw [gt] at h
  split at h
  ·rename_i hk
   cases h
   exact ⟨0, by rw [← hk]; rfl, fun j _ hj => absurd hj (by omega)⟩
  ·rename_i hk
   obtain ⟨i, h1, h2⟩ := ih h
   refine ⟨i + 1, by simpa using h1, fun j e' hj he => ?_⟩
   cases j with
   | zero =>
    simp only [List.getElem?_cons_zero, Option.some.injEq] at he
    rw [← he]
    exact hk
   | succ j => exact h2 j e' (by omega) (by simpa using he)
theorem st_set {L : Ro} (hn : (keys L).Nodup) {i : Nat} {id : Int} {s : Sr} (h : L[i]? = some (id, s)) (s' : Sr) : st L id s' = L.set i (id, s') := by
 induction L generalizing i with
 | nil => simp at h
 | cons e L ih =>
  rw [keys, List.map_cons, List.nodup_cons] at hn
  cases i with
  | zero =>
   simp only [List.getElem?_cons_zero, Option.some.injEq] at h
   subst h
   rw [st, List.map_cons, if_pos rfl, List.set_cons_zero]
   congr 1
   conv => rhs; rw [← List.map_id L]
   refine List.map_congr_left fun x hx => ?_
   rw [if_neg (fun e' => hn.1 (by have h' := List.mem_map_of_mem (f := fun e : Int × Sr => e.1) hx; rw [e'] at h'; exact h'))]
   rfl
  | succ i =>
   have h' : L[i]? = some (id, s) := by simpa using h
   rw [st, List.map_cons, if_neg (fun e' => hn.1 (by rw [e']; exact List.mem_map_of_mem (f := fun e : Int × Sr => e.1) (List.mem_of_getElem? h'))), List.set_cons_succ]
   exact congrArg _ (ih hn.2 h')
structure Sr.Ok (w : World) (s : Sr) : Prop where
 pe : s.pe.Ok w
 ca : s.ca.Ok w
 no : s.no.Ok w
structure Sr.Off (P : Nat) (s : Sr) : Prop where
 pe : s.pe.Off P
 ca : s.ca.Off P
 no : s.no.Off P
theorem Sr.Ok.on {w u : World} {s : Sr} (h : s.Ok w) (hb : Below w.heap.size w u) : s.Ok u := ⟨h.pe.on hb, h.ca.on hb, h.no.on hb⟩
theorem Sr.Ok.kpo {w u : World} {s : Sr} {P : Nat} (h : s.Ok w) (ho : s.Off P) (hk : Kp [P] w u) : s.Ok u := ⟨h.pe.kpo ho.pe hk, h.ca.kpo ho.ca hk, h.no.kpo ho.no hk⟩
def stl (u : World) (g : Nat) : Nat → List Value → World
 | _, [] => u
 | o, x :: xs => stl (u.setCell ⟨g, o, none⟩ x) g (o + 1) xs
def setl : List Value → Nat → List Value → List Value
 | l, _, [] => l
 | l, o, x :: xs => setl (l.set o x) (o + 1) xs
theorem ownsRow_stl {u : World} {b e size n c g : Nat} {xs : List Value} (h : u.ownsRow b e size (.slice (some ⟨g, 0, none⟩) n c) n xs) : ∀ (o : Nat) (vs : List Value), (stl u g o vs).ownsRow b e size (.slice (some ⟨g, 0, none⟩) n c) n (setl xs o vs) := fun o vs => by
 induction vs generalizing u xs o with
 | nil => exact h
 | cons x vs ih => exact ih (h.stored o x).1 (o + 1)
theorem kp_stl (u : World) (g : Nat) : ∀ (o : Nat) (vs : List Value), Kp [g] u (stl u g o vs) := fun o vs => by
 induction vs generalizing u o with
 | nil => exact Kp.refl _ _
 | cons x vs ih => exact ((Kp.refl [g] u).set ⟨g, o, none⟩ (by simp) x).trans (ih _ (o + 1)) (fun k hk _ => hk)
theorem setl_mid (A C B : List Value) : ∀ (j : Nat) (vs : List Value), j + vs.length ≤ C.length → setl (A ++ (C ++ B)) (A.length + j) vs = A ++ (setl C j vs ++ B) := fun j vs => by
 induction vs generalizing C j with
 | nil => intro _; rfl
 | cons x vs ih =>
  intro h
  rw [List.length_cons] at h
  rw [setl, setl, List.set_append_right _ _ (by omega), Nat.add_sub_cancel_left, List.set_append_left _ _ (by omega), Nat.add_assoc]
  exact ih (C.set j x) (j + 1) (by rw [List.length_set]; omega)
def sto (u : World) (g o : Nat) (r : Sx) : World := (((((((((u.setCell ⟨g, o, none⟩ (.bool r.at_)).setCell ⟨g, o + 1, none⟩ (.int .i64 r.buf)).setCell ⟨g, o + 2, none⟩ (.slice r.dm.a r.dm.n r.dm.c)).setCell ⟨g, o + 3, none⟩ (.slice r.fr.a r.fr.n r.fr.c)).setCell ⟨g, o + 4, none⟩ (.bool r.inp)).setCell ⟨g, o + 5, none⟩ (.bool r.all)).setCell ⟨g, o + 6, none⟩ (.slice r.rg.a r.rg.n r.rg.c)).setCell ⟨g, o + 7, none⟩ (.bool r.ord)).setCell ⟨g, o + 8, none⟩ (.slice r.od.a r.od.n r.od.c)).setCell ⟨g, o + 9, none⟩ (.slice r.pl.a r.pl.n r.pl.c)
theorem sto_eq (u : World) (g o : Nat) (r : Sx) : sto u g o r = stl u g o (sxc r) := rfl
def latS (s : Sr) : Sl := bif s.pe.ord then s.pe.od else bif s.ca.ord then s.ca.od else s.no.od
theorem latS_l (s : Sr) : (latS s).l = lat s.f := by
 unfold latS lat
 show _ = bif s.pe.ord then s.pe.od.l else bif s.ca.ord then s.ca.od.l else s.no.od.l
 cases s.pe.ord <;> cases s.ca.ord <;> rfl
theorem latS_ok {w : World} {s : Sr} (h : s.Ok w) : RdM 1 w (latS s).a (latS s).n (latS s).c (latS s).l := by
 unfold latS
 cases s.pe.ord
 ·cases s.ca.ord
  ·exact h.no.od
  ·exact h.ca.od
 ·exact h.pe.od
theorem un1_lat (s : Sr) : un1 (latS s).l = un1 (lat s.f) := by rw [latS_l]
theorem rz_of_rdm {w : World} {a : Option Addr} {n c : Nat} {l : List (List Int)} (h : RdM 1 w a n c l) : Rz w a n c (un1 l) :=
 ⟨by rw [un1_length]; exact h.len, h.le, h.max, h.hnil, fun hn => by
  obtain ⟨b, off, e, h1, h2⟩ := h.pl hn
  refine ⟨b, off, e, h1, fun j z hz => ?_⟩
  rw [un1, List.getElem?_map] at hz
  obtain ⟨y, hy, rfl⟩ := Option.map_eq_some_iff.1 hz
  have hs := h.size y (List.mem_of_getElem? hy)
  have := h2 j y hy 0 (hd y) (by
   match y, hs with
   | [z0], _ => rfl)
  rwa [Nat.mul_one, Nat.add_zero] at this⟩
theorem rdm_of_rz {w : World} {a : Option Addr} {n c : Nat} {l : List Int} (h : Rz w a n c l) : RdM 1 w a n c (sg l) :=
 ⟨by rw [sg_length]; exact h.len, h.le, h.max, h.hnil, fun hn => by
  obtain ⟨b, off, e, h1, h2⟩ := h.pl hn
  refine ⟨b, off, e, h1, fun j y hy i z hz => ?_⟩
  rw [sg, List.getElem?_map] at hy
  obtain ⟨t, ht, rfl⟩ := Option.map_eq_some_iff.1 hy
  cases i with
  | zero =>
   simp only [List.getElem?_cons_zero, Option.some.injEq] at hz
   subst hz
   rw [Nat.mul_one, Nat.add_zero]
   exact h2 j t ht
  | succ i => simp at hz, sg_size l⟩
theorem sl_of_owz {w w' : World} {v : Value} {m : List Int} (h : OwZ w w' v m) : ∃ l : Sl, v = .slice l.a l.n l.c ∧ l.l = sg m ∧ RdM 1 w' l.a l.n l.c l.l ∧ ∀ y, l.a = some y → w.heap.size ≤ y.block := by
 obtain ⟨a, c, rfl, hr, hf⟩ := h.rd
 exact ⟨⟨a, _, c, sg m⟩, rfl, rfl, rdm_of_rz hr, fun y hy => (hf y hy).1⟩
theorem Sx.Ok.q_len {x : Sx} {w : World} (h : x.Ok w) : x.dm.n = x.q.dm.length ∧ x.fr.n = x.q.fr.length ∧ x.rg.n = x.q.rg.length ∧ x.od.n = x.q.od.length ∧ x.pl.n = x.q.pl.length := ⟨h.dm.len.symm, h.fr.len.symm, h.rg.len.symm, h.od.len.symm, h.pl.len.symm⟩
theorem zs_len {m : Nat} {s : Sr} {w : World} (hz : Zs m s.f) (ok : s.Ok w) (hm : m ≤ 900) : s.pe.Len 1000 ∧ s.ca.Len 1000 ∧ s.no.Len 1000 := by
 obtain ⟨h1, h2, h3, h4, h5, _⟩ := hz
 have e1 := ok.pe.q_len
 have e2 := ok.ca.q_len
 have e3 := ok.no.q_len
 have f1 : s.f.pe = s.pe.q := rfl
 have f2 : s.f.ca = s.ca.q := rfl
 have f3 : s.f.no = s.no.q := rfl
 rw [f1, f2, f3] at h1 h2 h3 h4 h5
 unfold Sx.Len
 omega
structure Df (base : Nat) (X : List Nat) (w : World) (q : Nat) (v : Value) (L : Ro) : Prop where
 obj : w.heap[q]? = some (.cells #[v] 52 (0, 0))
 row : w.ownsRow base 78 33 v L.length (rcs L)
 ne : v.ownBlock ≠ some q
 ok : ∀ e ∈ L, e.2.Ok w
 off : ∀ e ∈ L, ∀ P ∈ q :: (v.ownBlock.toList ++ X), e.2.Off P
theorem Df.on {base : Nat} {X : List Nat} {w u : World} {q : Nat} {v : Value} {L : Ro} (h : Df base X w q v L) (hb : Below w.heap.size w u) : Df base X u q v L :=
 ⟨by rw [hb.block q (Array.getElem?_eq_some_iff.1 h.obj).1]; exact h.obj, ownsRow_below h.row hb, h.ne, fun e he => (h.ok e he).on hb, h.off⟩
theorem Df.lt {base : Nat} {X : List Nat} {w : World} {q : Nat} {v : Value} {L : Ro} (h : Df base X w q v L) : q < w.heap.size := (Array.getElem?_eq_some_iff.1 h.obj).1
theorem Df.val {base : Nat} {X : List Nat} {w : World} {q : Nat} {v : Value} {L : Ro} (h : Df base X w q v L) : ∃ a c, v = .slice a L.length c ∧ L.length ≤ c ∧ c ≤ maxLen ∧ w.cell? ⟨q, 0, none⟩ = some (.slice a L.length c) ∧ (∀ (i : Nat) (e : Int × Sr), L[i]? = some e → ∃ g, a = some ⟨g, 0, none⟩ ∧ v.ownBlock = some g ∧ ∀ j, j < 33 → w.cell? ⟨g, i * 33 + j, none⟩ = (scs e)[j]?) := by
 have hc : w.cell? ⟨q, 0, none⟩ = some v := by rw [cell_of_row w q 0 _ _ _ h.obj]; rfl
 rcases h.row.2 with ⟨rfl, h0⟩ | ⟨g, cap, cur, rfl, hb, hg, hn, hm, _, _⟩
 ·refine ⟨none, 0, by rw [h0], by omega, by simp [maxLen], by rw [h0]; exact hc, fun i e he => ?_⟩
  have := List.eq_nil_of_length_eq_zero h0
  subst this
  simp at he
 ·refine ⟨some ⟨g, 0, none⟩, cap, rfl, hn, hm, hc, fun i e he => ⟨g, rfl, rfl, fun j hj => ?_⟩⟩
  have hi := (List.getElem?_eq_some_iff.1 he).1
  rw [h.row.cellAt _ (by omega)]
  exact rcs_at he hj
end
end Go.Proofs.YtkjempffidndeaaGreatDoor
