/- Lemmas that the proof leans on. -/
import Derived.Test.YtdgknofpkafppaaGreatDoorB09
import Derived.Test.YtdgknofpkafppaaGreatDoorB03
namespace Go.Proofs.YtdgknofpkafppaaGreatDoor
open Go Go.RowKit
set_option maxRecDepth 100000
set_option maxHeartbeats 4000000
section
theorem rapply_any (x y : Sx) (w : World) (okx : x.Ok w) (oky : y.Ok w) (lx : x.Len 1000) (ly : y.Len 1000) : Calls Tryz.prog 91 #[.agg #[.bool x.at_, .int .i64 x.buf, .slice x.dm.a x.dm.n x.dm.c, .slice x.fr.a x.fr.n x.fr.c, .bool x.inp, .bool x.all, .slice x.rg.a x.rg.n x.rg.c, .bool x.ord, .slice x.od.a x.od.n x.od.c, .slice x.pl.a x.pl.n x.pl.c], .agg #[.bool y.at_, .int .i64 y.buf, .slice y.dm.a y.dm.n y.dm.c, .slice y.fr.a y.fr.n y.fr.c, .bool y.inp, .bool y.all, .slice y.rg.a y.rg.n y.rg.c, .bool y.ord, .slice y.od.a y.od.n y.od.c, .slice y.pl.a y.pl.n y.pl.c]] w (Rst w (apl x.q y.q)) := by
 have hb3 : Below w.heap.size w (((w.alloc (.cells #[.bool x.at_, .int .i64 x.buf, .slice x.dm.a x.dm.n x.dm.c, .slice x.fr.a x.fr.n x.fr.c, .bool x.inp, .bool x.all, .slice x.rg.a x.rg.n x.rg.c, .bool x.ord, .slice x.od.a x.od.n x.od.c, .slice x.pl.a x.pl.n x.pl.c] 43)).alloc (.cells #[.bool y.at_, .int .i64 y.buf, .slice y.dm.a y.dm.n y.dm.c, .slice y.fr.a y.fr.n y.fr.c, .bool y.inp, .bool y.all, .slice y.rg.a y.rg.n y.rg.c, .bool y.ord, .slice y.od.a y.od.n y.od.c, .slice y.pl.a y.pl.n y.pl.c] 43)).alloc (.cells #[.bool sx0.at_, .int .i64 sx0.buf, .slice sx0.dm.a sx0.dm.n sx0.dm.c, .slice sx0.fr.a sx0.fr.n sx0.fr.c, .bool sx0.inp, .bool sx0.all, .slice sx0.rg.a sx0.rg.n sx0.rg.c, .bool sx0.ord, .slice sx0.od.a sx0.od.n sx0.od.c, .slice sx0.pl.a sx0.pl.n sx0.pl.c] 43)) := Below.on (Below.on (bel_new _ _) (bel_new _ _)) (bel_new _ _)
 have CM := hid (rmerge_any x y _ (okx.on hb3) (oky.on hb3) lx ly)
 have hz := bs_new ((w.alloc (.cells #[.bool x.at_, .int .i64 x.buf, .slice x.dm.a x.dm.n x.dm.c, .slice x.fr.a x.fr.n x.fr.c, .bool x.inp, .bool x.all, .slice x.rg.a x.rg.n x.rg.c, .bool x.ord, .slice x.od.a x.od.n x.od.c, .slice x.pl.a x.pl.n x.pl.c] 43)).alloc (.cells #[.bool y.at_, .int .i64 y.buf, .slice y.dm.a y.dm.n y.dm.c, .slice y.fr.a y.fr.n y.fr.c, .bool y.inp, .bool y.all, .slice y.rg.a y.rg.n y.rg.c, .bool y.ord, .slice y.od.a y.od.n y.od.c, .slice y.pl.a y.pl.n y.pl.c] 43)) sx0
 simp only [size_new] at hz
 have HZ := hid hz
 have HB := hid hb3
 clear okx oky lx ly hb3 hz
 go_enter Tryz.func91, Tryz.ntmps91
 go_wp2_with fail
 refine CM.out.mono ?_
 rintro e w1 ⟨r, rfl, okr, hnr, hq, hb⟩
 have HR := hid okr
 have HQ := hid hq
 simp only [size_new] at hnr
 have HZ1 := hid (HZ.out.on hb)
 have HN := hid hnr.end_
 have HB1 := hid (Below.on HB.out hb)
 have hlt := HZ1.out.lt
 clear okr hnr hq hb CM HB HZ
 obtain ⟨ra, rb, rc, rd, re, rf, rg, rh, ri, rj⟩ := HZ1.out.all
 have fz := HZ1.out.fz
 go_wp2
 have hZ := (HZ1.out.stz r.end_).on (bel_new _ (.cells #[.bool false, .int .i64 r.buf, .slice none 0 0, .slice r.fr.a r.fr.n r.fr.c, .bool false, .bool r.all, .slice r.rg.a r.rg.n r.rg.c, .bool false, .slice r.od.a r.od.n r.od.c, .slice r.pl.a r.pl.n r.pl.c] 43))
 refine bodyPost_ret (results_cell_row rfl _ _ (w.heap.size + 1 + 1) _ _ _ _ rfl hZ.bk.obj Tryz.underlying43 rfl infoSt) rfl ?_
 refine ⟨r.end_, rfl, (HR.out.end_.stz HN.out (show w.heap.size + 1 + 1 < w.heap.size + 1 + 1 + 1 by omega) r.end_).on (bel_new _ _), HN.out.low (by omega), ?_, Below.on (below_stz HB1.out (show w.heap.size ≤ w.heap.size + 1 + 1 by omega) r.end_) (bel_new _ _)⟩
 have h := HQ.out
 rw [apl, ← h]
 rfl
structure Sx.Off (x : Sx) (P : Nat) : Prop where
 dm : ∀ y, x.dm.a = some y → 0 < x.dm.n → y.block ≠ P
 fr : ∀ y, x.fr.a = some y → 0 < x.fr.n → y.block ≠ P
 rg : ∀ y, x.rg.a = some y → 0 < x.rg.n → y.block ≠ P
 od : ∀ y, x.od.a = some y → 0 < x.od.n → y.block ≠ P
 pl : ∀ y, x.pl.a = some y → 0 < x.pl.n → y.block ≠ P
theorem rdm_off {m : Nat} {u : World} {s : Sl} {P : Nat} (h : RdM m u s.a s.n s.c s.l) (hP : u.heap.size ≤ P) : ∀ y, s.a = some y → 0 < s.n → y.block ≠ P := fun y hy hn => by
 obtain ⟨b, off, e, hlt, _⟩ := h.pl hn
 rw [hy] at e
 cases e
 show b ≠ P
 omega
theorem off_old {x : Sx} {u : World} {P : Nat} (h : x.Ok u) (hP : u.heap.size ≤ P) : x.Off P := ⟨rdm_off h.dm hP, rdm_off h.fr hP, rdm_off h.rg hP, rdm_off h.od hP, rdm_off h.pl hP⟩
theorem off_new {x : Sx} {B P : Nat} (h : x.New B) (hP : P < B) : x.Off P := ⟨fun y e _ => by have := h.dm y e; omega, fun y e _ => by have := h.fr y e; omega, fun y e _ => by have := h.rg y e; omega, fun y e _ => by have := h.od y e; omega, fun y e _ => by have := h.pl y e; omega⟩
theorem kp_stz (u : World) (q : Nat) (r : Sx) : Kp [q] u (stz u q r) := (((((((((((Kp.refl [q] u).set ⟨q, 0, none⟩ (by simp) _).set ⟨q, 1, none⟩ (by simp) _).set ⟨q, 2, none⟩ (by simp) _).set ⟨q, 3, none⟩ (by simp) _).set ⟨q, 4, none⟩ (by simp) _).set ⟨q, 5, none⟩ (by simp) _).set ⟨q, 6, none⟩ (by simp) _).set ⟨q, 7, none⟩ (by simp) _).set ⟨q, 8, none⟩ (by simp) _).set ⟨q, 9, none⟩ (by simp) _)
theorem Sx.Ok.kpo {x : Sx} {u v : World} {P : Nat} (h : x.Ok u) (ho : x.Off P) (hk : Kp [P] u v) : x.Ok v :=
 ⟨h.dm.kp hk (fun y e n hm => ho.dm y e n (by simpa using hm)), h.fr.kp hk (fun y e n hm => ho.fr y e n (by simpa using hm)), h.rg.kp hk (fun y e n hm => ho.rg y e n (by simpa using hm)), h.od.kp hk (fun y e n hm => ho.od y e n (by simpa using hm)), h.pl.kp hk (fun y e n hm => ho.pl y e n (by simpa using hm))⟩
end
section
structure Sr where
 par : Int
 syn : Bool
 pe : Sx
 ca : Sx
 no : Sx
def Sr.f (s : Sr) : Sf := ⟨s.par, s.syn, s.pe.q, s.ca.q, s.no.q⟩
abbrev Ro := List (Int × Sr)
def abs (L : Ro) : Fo := L.map fun e => (e.1, e.2.f)
theorem abs_keys (L : Ro) : keys (abs L) = keys L := by simp [abs, keys]
theorem abs_length (L : Ro) : (abs L).length = L.length := by simp [abs]
theorem gt_abs (L : Ro) (x : Int) : gt (abs L) x = (gt L x).map Sr.f := by
 induction L with
 | nil => rfl
 | cons e L ih =>
  rw [abs, List.map_cons, gt, gt]
  split
  ·rfl
  ·exact ih
theorem abs_st (L : Ro) (id : Int) (s : Sr) : abs (st L id s) = st (abs L) id s.f := by
 rw [abs, st, st, abs, List.map_map, List.map_map]
 refine List.map_congr_left fun e _ => ?_
 simp only [Function.comp]
 split <;> rfl
theorem abs_upd {L : Ro} {id : Int} {s : Sr} (hs : gt L id = some s) (f : Sf → Sf) (s' : Sr) (h : s'.f = f s.f) : abs (st L id s') = upd (abs L) id f := by
 rw [abs_st, upd, gt_abs, hs, h]
 rfl
def sxc (x : Sx) : List Value := [.bool x.at_, .int .i64 x.buf, .slice x.dm.a x.dm.n x.dm.c, .slice x.fr.a x.fr.n x.fr.c, .bool x.inp, .bool x.all, .slice x.rg.a x.rg.n x.rg.c, .bool x.ord, .slice x.od.a x.od.n x.od.c, .slice x.pl.a x.pl.n x.pl.c]
def scs (e : Int × Sr) : List Value := [.int .i64 e.1, .int .i64 e.2.par, .bool e.2.syn] ++ (sxc e.2.pe ++ (sxc e.2.ca ++ sxc e.2.no))
theorem scs_length (e : Int × Sr) : (scs e).length = 33 := rfl
def rcs (L : Ro) : List Value := L.flatMap scs
theorem rcs_nil : rcs [] = [] := rfl
theorem rcs_cons (e : Int × Sr) (L : Ro) : rcs (e :: L) = scs e ++ rcs L := rfl
theorem rcs_append (L M : Ro) : rcs (L ++ M) = rcs L ++ rcs M := by simp [rcs]
theorem rcs_length (L : Ro) : (rcs L).length = L.length * 33 := by
 induction L with
 | nil => rfl
 | cons e L ih => rw [rcs_cons, List.length_append, scs_length, ih, List.length_cons]; omega
theorem rcs_one (L : Ro) : ∀ u ∈ rcs L, u.oneCell' = true := by
 intro u hu
 obtain ⟨e, _, he⟩ := List.mem_flatMap.1 hu
 simp only [scs, sxc, List.mem_append, List.mem_cons, List.not_mem_nil, or_false] at he
 rcases he with (rfl | rfl | rfl) | (rfl | rfl | rfl | rfl | rfl | rfl | rfl | rfl | rfl | rfl) | (rfl | rfl | rfl | rfl | rfl | rfl | rfl | rfl | rfl | rfl) | (rfl | rfl | rfl | rfl | rfl | rfl | rfl | rfl | rfl | rfl) <;> rfl
theorem rcs_at {L : Ro} {i : Nat} {e : Int × Sr} (h : L[i]? = some e) {j : Nat} (hj : j < 33) : (rcs L)[i * 33 + j]? = (scs e)[j]? := by
 induction L generalizing i with
 | nil => simp at h
 | cons x L ih =>
  rw [rcs_cons]
  cases i with
  | zero =>
   simp only [List.getElem?_cons_zero, Option.some.injEq] at h
   subst h
   rw [Nat.zero_mul, Nat.zero_add, List.getElem?_append_left (by rw [scs_length]; exact hj)]
  | succ i =>
   rw [List.getElem?_append_right (by rw [scs_length]; omega), scs_length, show (i + 1) * 33 + j - 33 = i * 33 + j by omega]
   exact ih (by simpa using h)
theorem rcs_set {L : Ro} {i : Nat} {e : Int × Sr} (h : L[i]? = some e) {j : Nat} (hj : j < 33) (v : Value) (e' : Int × Sr) (he : scs e' = (scs e).set j v) : rcs (L.set i e') = (rcs L).set (i * 33 + j) v := by
 induction L generalizing i with
 | nil => simp at h
 | cons x L ih =>
  cases i with
  | zero =>
   simp only [List.getElem?_cons_zero, Option.some.injEq] at h
   subst h
   rw [List.set_cons_zero, rcs_cons, rcs_cons, he, Nat.zero_mul, Nat.zero_add, List.set_append_left _ _ (by rw [scs_length]; exact hj)]
  | succ i =>
   rw [List.set_cons_succ, rcs_cons, rcs_cons, ih (by simpa using h), List.set_append_right _ _ (by rw [scs_length]; omega), scs_length, show (i + 1) * 33 + j - 33 = i * 33 + j by omega]
theorem at_key {L : Ro} {id : Int} {s : Sr} (h : gt L id = some s) : ∃ i : Nat, L[i]? = some (id, s) ∧ (∀ (j : Nat) (e : Int × Sr), j < i → L[j]? = some e → e.1 ≠ id) := by
 induction L with
 | nil => cases h
 | cons e L ih =>
  rw [gt] at h
  split at h
  ·rename_i hk
   cases h
   exact ⟨0, by rw [← hk]; rfl, fun j _ hj => absurd hj (by omega)⟩
  ·rename_i hk
   obtain ⟨i, h1, h2⟩ := ih h
   refine ⟨i + 1, by simpa using h1, fun j e' hj he => ?_⟩
   cases j with
   | zero =>
    simp only [List.getElem?_cons_zero, Option.some.injEq] at he
    rw [← he]
    exact hk
   | succ j => exact h2 j e' (by omega) (by simpa using he)
theorem st_set {L : Ro} (hn : (keys L).Nodup) {i : Nat} {id : Int} {s : Sr} (h : L[i]? = some (id, s)) (s' : Sr) : st L id s' = L.set i (id, s') := by
 induction L generalizing i with
 | nil => simp at h
 | cons e L ih =>
  rw [keys, List.map_cons, List.nodup_cons] at hn
  cases i with
  | zero =>
   simp only [List.getElem?_cons_zero, Option.some.injEq] at h
   subst h
   rw [st, List.map_cons, if_pos rfl, List.set_cons_zero]
   congr 1
   conv => rhs; rw [← List.map_id L]
   refine List.map_congr_left fun x hx => ?_
   rw [if_neg (fun e' => hn.1 (by have h' := List.mem_map_of_mem (f := fun e : Int × Sr => e.1) hx; rw [e'] at h'; exact h'))]
   rfl
  | succ i =>
   have h' : L[i]? = some (id, s) := by simpa using h
   rw [st, List.map_cons, if_neg (fun e' => hn.1 (by rw [e']; exact List.mem_map_of_mem (f := fun e : Int × Sr => e.1) (List.mem_of_getElem? h'))), List.set_cons_succ]
   exact congrArg _ (ih hn.2 h')
structure Sr.Ok (w : World) (s : Sr) : Prop where
 pe : s.pe.Ok w
 ca : s.ca.Ok w
 no : s.no.Ok w
structure Sr.Off (P : Nat) (s : Sr) : Prop where
 pe : s.pe.Off P
 ca : s.ca.Off P
 no : s.no.Off P
theorem Sr.Ok.on {w u : World} {s : Sr} (h : s.Ok w) (hb : Below w.heap.size w u) : s.Ok u := ⟨h.pe.on hb, h.ca.on hb, h.no.on hb⟩
theorem Sr.Ok.kpo {w u : World} {s : Sr} {P : Nat} (h : s.Ok w) (ho : s.Off P) (hk : Kp [P] w u) : s.Ok u := ⟨h.pe.kpo ho.pe hk, h.ca.kpo ho.ca hk, h.no.kpo ho.no hk⟩
def stl (u : World) (g : Nat) : Nat → List Value → World
 | _, [] => u
 | o, x :: xs => stl (u.setCell ⟨g, o, none⟩ x) g (o + 1) xs
def setl : List Value → Nat → List Value → List Value
 | l, _, [] => l
 | l, o, x :: xs => setl (l.set o x) (o + 1) xs
theorem ownsRow_stl {u : World} {b e size n c g : Nat} {xs : List Value} (h : u.ownsRow b e size (.slice (some ⟨g, 0, none⟩) n c) n xs) : ∀ (o : Nat) (vs : List Value), (stl u g o vs).ownsRow b e size (.slice (some ⟨g, 0, none⟩) n c) n (setl xs o vs) := fun o vs => by
 induction vs generalizing u xs o with
 | nil => exact h
 | cons x vs ih => exact ih (h.stored o x).1 (o + 1)
theorem kp_stl (u : World) (g : Nat) : ∀ (o : Nat) (vs : List Value), Kp [g] u (stl u g o vs) := fun o vs => by
 induction vs generalizing u o with
 | nil => exact Kp.refl _ _
 | cons x vs ih => exact ((Kp.refl [g] u).set ⟨g, o, none⟩ (by simp) x).trans (ih _ (o + 1)) (fun k hk _ => hk)
theorem setl_mid (A C B : List Value) : ∀ (j : Nat) (vs : List Value), j + vs.length ≤ C.length → setl (A ++ (C ++ B)) (A.length + j) vs = A ++ (setl C j vs ++ B) := fun j vs => by
 induction vs generalizing C j with
 | nil => intro _; rfl
 | cons x vs ih =>
  intro h
  rw [List.length_cons] at h
  rw [setl, setl, List.set_append_right _ _ (by omega), Nat.add_sub_cancel_left, List.set_append_left _ _ (by omega), Nat.add_assoc]
  exact ih (C.set j x) (j + 1) (by rw [List.length_set]; omega)
def sto (u : World) (g o : Nat) (r : Sx) : World := (((((((((u.setCell ⟨g, o, none⟩ (.bool r.at_)).setCell ⟨g, o + 1, none⟩ (.int .i64 r.buf)).setCell ⟨g, o + 2, none⟩ (.slice r.dm.a r.dm.n r.dm.c)).setCell ⟨g, o + 3, none⟩ (.slice r.fr.a r.fr.n r.fr.c)).setCell ⟨g, o + 4, none⟩ (.bool r.inp)).setCell ⟨g, o + 5, none⟩ (.bool r.all)).setCell ⟨g, o + 6, none⟩ (.slice r.rg.a r.rg.n r.rg.c)).setCell ⟨g, o + 7, none⟩ (.bool r.ord)).setCell ⟨g, o + 8, none⟩ (.slice r.od.a r.od.n r.od.c)).setCell ⟨g, o + 9, none⟩ (.slice r.pl.a r.pl.n r.pl.c)
theorem sto_eq (u : World) (g o : Nat) (r : Sx) : sto u g o r = stl u g o (sxc r) := rfl
def latS (s : Sr) : Sl := bif s.pe.ord then s.pe.od else bif s.ca.ord then s.ca.od else s.no.od
theorem latS_l (s : Sr) : (latS s).l = lat s.f := by
 unfold latS lat
 show _ = bif s.pe.ord then s.pe.od.l else bif s.ca.ord then s.ca.od.l else s.no.od.l
 cases s.pe.ord <;> cases s.ca.ord <;> rfl
theorem latS_ok {w : World} {s : Sr} (h : s.Ok w) : RdM 1 w (latS s).a (latS s).n (latS s).c (latS s).l := by
 unfold latS
 cases s.pe.ord
 ·cases s.ca.ord
  ·exact h.no.od
  ·exact h.ca.od
 ·exact h.pe.od
theorem un1_lat (s : Sr) : un1 (latS s).l = un1 (lat s.f) := by rw [latS_l]
theorem rz_of_rdm {w : World} {a : Option Addr} {n c : Nat} {l : List (List Int)} (h : RdM 1 w a n c l) : Rz w a n c (un1 l) :=
 ⟨by rw [un1_length]; exact h.len, h.le, h.max, h.hnil, fun hn => by
  obtain ⟨b, off, e, h1, h2⟩ := h.pl hn
  refine ⟨b, off, e, h1, fun j z hz => ?_⟩
  rw [un1, List.getElem?_map] at hz
  obtain ⟨y, hy, rfl⟩ := Option.map_eq_some_iff.1 hz
  have hs := h.size y (List.mem_of_getElem? hy)
  have := h2 j y hy 0 (hd y) (by
   match y, hs with
   | [z0], _ => rfl)
  rwa [Nat.mul_one, Nat.add_zero] at this⟩
theorem rdm_of_rz {w : World} {a : Option Addr} {n c : Nat} {l : List Int} (h : Rz w a n c l) : RdM 1 w a n c (sg l) :=
 ⟨by rw [sg_length]; exact h.len, h.le, h.max, h.hnil, fun hn => by
  obtain ⟨b, off, e, h1, h2⟩ := h.pl hn
  refine ⟨b, off, e, h1, fun j y hy i z hz => ?_⟩
  rw [sg, List.getElem?_map] at hy
  obtain ⟨t, ht, rfl⟩ := Option.map_eq_some_iff.1 hy
  cases i with
  | zero =>
   simp only [List.getElem?_cons_zero, Option.some.injEq] at hz
   subst hz
   rw [Nat.mul_one, Nat.add_zero]
   exact h2 j t ht
  | succ i => simp at hz, sg_size l⟩
theorem sl_of_owz {w w' : World} {v : Value} {m : List Int} (h : OwZ w w' v m) : ∃ l : Sl, v = .slice l.a l.n l.c ∧ l.l = sg m ∧ RdM 1 w' l.a l.n l.c l.l ∧ ∀ y, l.a = some y → w.heap.size ≤ y.block := by
 obtain ⟨a, c, rfl, hr, hf⟩ := h.rd
 exact ⟨⟨a, _, c, sg m⟩, rfl, rfl, rdm_of_rz hr, fun y hy => (hf y hy).1⟩
theorem Sx.Ok.q_len {x : Sx} {w : World} (h : x.Ok w) : x.dm.n = x.q.dm.length ∧ x.fr.n = x.q.fr.length ∧ x.rg.n = x.q.rg.length ∧ x.od.n = x.q.od.length ∧ x.pl.n = x.q.pl.length := ⟨h.dm.len.symm, h.fr.len.symm, h.rg.len.symm, h.od.len.symm, h.pl.len.symm⟩
theorem zs_len {m : Nat} {s : Sr} {w : World} (hz : Zs m s.f) (ok : s.Ok w) (hm : m ≤ 900) : s.pe.Len 1000 ∧ s.ca.Len 1000 ∧ s.no.Len 1000 := by
 obtain ⟨h1, h2, h3, h4, h5, _⟩ := hz
 have e1 := ok.pe.q_len
 have e2 := ok.ca.q_len
 have e3 := ok.no.q_len
 have f1 : s.f.pe = s.pe.q := rfl
 have f2 : s.f.ca = s.ca.q := rfl
 have f3 : s.f.no = s.no.q := rfl
 rw [f1, f2, f3] at h1 h2 h3 h4 h5
 unfold Sx.Len
 omega
structure Df (base : Nat) (X : List Nat) (w : World) (q : Nat) (v : Value) (L : Ro) : Prop where
 obj : w.heap[q]? = some (.cells #[v] 28 (0, 0))
 row : w.ownsRow base 67 33 v L.length (rcs L)
 ne : v.ownBlock ≠ some q
 ok : ∀ e ∈ L, e.2.Ok w
 off : ∀ e ∈ L, ∀ P ∈ q :: (v.ownBlock.toList ++ X), e.2.Off P
theorem Df.on {base : Nat} {X : List Nat} {w u : World} {q : Nat} {v : Value} {L : Ro} (h : Df base X w q v L) (hb : Below w.heap.size w u) : Df base X u q v L :=
 ⟨by rw [hb.block q (Array.getElem?_eq_some_iff.1 h.obj).1]; exact h.obj, ownsRow_below h.row hb, h.ne, fun e he => (h.ok e he).on hb, h.off⟩
theorem Df.lt {base : Nat} {X : List Nat} {w : World} {q : Nat} {v : Value} {L : Ro} (h : Df base X w q v L) : q < w.heap.size := (Array.getElem?_eq_some_iff.1 h.obj).1
theorem Df.val {base : Nat} {X : List Nat} {w : World} {q : Nat} {v : Value} {L : Ro} (h : Df base X w q v L) : ∃ a c, v = .slice a L.length c ∧ L.length ≤ c ∧ c ≤ maxLen ∧ w.cell? ⟨q, 0, none⟩ = some (.slice a L.length c) ∧ (∀ (i : Nat) (e : Int × Sr), L[i]? = some e → ∃ g, a = some ⟨g, 0, none⟩ ∧ v.ownBlock = some g ∧ ∀ j, j < 33 → w.cell? ⟨g, i * 33 + j, none⟩ = (scs e)[j]?) := by
 have hc : w.cell? ⟨q, 0, none⟩ = some v := by rw [cell_of_row w q 0 _ _ _ h.obj]; rfl
 rcases h.row.2 with ⟨rfl, h0⟩ | ⟨g, cap, cur, rfl, hb, hg, hn, hm, _, _⟩
 ·refine ⟨none, 0, by rw [h0], by omega, by simp [maxLen], by rw [h0]; exact hc, fun i e he => ?_⟩
  have := List.eq_nil_of_length_eq_zero h0
  subst this
  simp at he
 ·refine ⟨some ⟨g, 0, none⟩, cap, rfl, hn, hm, hc, fun i e he => ⟨g, rfl, rfl, fun j hj => ?_⟩⟩
  have hi := (List.getElem?_eq_some_iff.1 he).1
  rw [h.row.cellAt _ (by omega)]
  exact rcs_at he hj
end
section
theorem Anc.chain {F : Fo} {y a : Int} (h : Anc F y a) : ∀ {b : Int}, Anc F y b → Anc F a b ∨ Anc F b a := by
 induction h with
 | self _ => exact fun hb => .inl hb
 | up h1 h2 ih =>
  intro b hb
  cases hb with
  | self h3 => exact .inr (.up h1 h2)
  | up h3 h4 =>
   rw [h1] at h3
   cases h3
   exact ih h4
noncomputable def dsc (F : Fo) (x : Int) : Nat := ((keys F).filter fun y => anc F y x).length
theorem dsc_le (F : Fo) (x : Int) : dsc F x ≤ F.length := by
 refine Nat.le_trans (List.length_filter_le _ _) ?_
 rw [keys, List.length_map]
 exact Nat.le_refl _
theorem Tre.dsc {F G : Fo} (h : Tre F G) (x : Int) : dsc F x = dsc G x := by
 unfold Go.Proofs.YtdgknofpkafppaaGreatDoor.dsc
 rw [h.keys]
 congr 1
 refine List.filter_congr fun y _ => ?_
 rw [Bool.eq_iff_iff, anc_true, anc_true]
 exact ⟨h.anc, h.symm.anc⟩
theorem filter_or {α : Type} (l : List α) (p r : α → Bool) (h : ∀ x, p x = true → r x = true → False) : (l.filter p).length + (l.filter r).length = (l.filter fun x => p x || r x).length := by
 induction l with
 | nil => rfl
 | cons x l ih =>
  rw [List.filter_cons, List.filter_cons, List.filter_cons]
  cases hp : p x with
  | true =>
   cases hr : r x with
   | true => exact (h x hp hr).elim
   | false => simp only [Bool.or_false, if_true, List.length_cons]; simp; omega
  | false =>
   cases hr : r x with
   | true => simp only [Bool.false_or, if_true, List.length_cons]; simp; omega
   | false => simpa using ih
theorem kids_sum {F : Fo} (hA : Acy F) {x : Int} : ∀ {ks : List Int}, ks.Nodup → (∀ k ∈ ks, ∃ c, gt F k = some c ∧ c.par = x) → (ks.map (dsc F)).sum = ((keys F).filter fun y => ks.any fun k => anc F y k).length
 | [], _, _ => by
  have h : (keys F).filter (fun y => ([] : List Int).any fun k => anc F y k) = [] := List.filter_eq_nil_iff.2 (by simp)
  rw [h]
  rfl
 | k :: ks, hn, hk => by
  rw [List.nodup_cons] at hn
  have ih := kids_sum hA hn.2 (fun k' hk' => hk k' (by simp [hk']))
  rw [List.map_cons, List.sum_cons, ih, dsc, filter_or]
  ·congr 1
  ·intro y h1 h2
   obtain ⟨k', hk', h3⟩ := List.any_eq_true.1 h2
   obtain ⟨c, hc, hp⟩ := hk k (by simp)
   obtain ⟨c', hc', hp'⟩ := hk k' (by simp [hk'])
   have hne : k ≠ k' := fun e => hn.1 (by rw [e]; exact hk')
   rcases (anc_true.1 h1).chain (anc_true.1 h3) with h | h
   ·obtain ⟨s, hs, h | h⟩ := anc_iff.1 h
    ·exact hne h
    ·rw [hc] at hs
     cases hs
     rw [hp, ← hp'] at h
     exact hA.no k' c' hc' h
   ·obtain ⟨s, hs, h | h⟩ := anc_iff.1 h
    ·exact hne h.symm
    ·rw [hc'] at hs
     cases hs
     rw [hp', ← hp] at h
     exact hA.no k c hc h
theorem kids_dsc {F : Fo} (hA : Acy F) {x : Int} {s : Sf} (hs : gt F x = some s) {ks : List Int} (hn : ks.Nodup) (hk : ∀ k ∈ ks, ∃ c, gt F k = some c ∧ c.par = x) : 1 + (ks.map (dsc F)).sum ≤ dsc F x := by
 rw [kids_sum hA hn hk, Nat.add_comm]
 refine filter_lt (fun y hy => ?_) (a := x) (gt_some.1 (by rw [hs]; rfl)) ?_ (anc_true.2 (.self hs))
 ·obtain ⟨k, hk', h1⟩ := List.any_eq_true.1 hy
  obtain ⟨c, hc, hp⟩ := hk k hk'
  exact anc_true.2 ((anc_true.1 h1).trans (.up hc (by rw [hp]; exact .self hs)))
 ·rw [Bool.eq_false_iff]
  intro h
  obtain ⟨k, hk', h1⟩ := List.any_eq_true.1 h
  obtain ⟨c, hc, hp⟩ := hk k hk'
  exact hA.no k c hc (by rw [hp]; exact anc_true.1 h1)
structure Nos (s : Sf) : Prop where
 pe : (un1 s.pe.od).Nodup
 ca : (un1 s.ca.od).Nodup
 no : (un1 s.no.od).Nodup
def Nof (F : Fo) : Prop := ∀ x s, gt F x = some s → Nos s
theorem nodup_filter_ne {l : List Int} (h : l.Nodup) : (l.filter fun k => k != 0).Nodup := h.sublist List.filter_sublist
theorem sum_map_le {l : List Int} {f g : Int → Nat} (h : ∀ k ∈ l, f k ≤ g k) : (l.map f).sum ≤ (l.map g).sum := by
 induction l with
 | nil => exact Nat.le_refl _
 | cons k l ih =>
  rw [List.map_cons, List.map_cons, List.sum_cons, List.sum_cons]
  have h1 := h k (by simp)
  have h2 := ih fun k' hk' => h k' (by simp [hk'])
  omega
theorem sum_zero {l : List Int} (hn : l.Nodup) (f : Int → Nat) (h0 : f 0 ≤ 1) : (l.map f).sum ≤ 1 + ((l.filter fun k => k != 0).map f).sum := by
 induction l with
 | nil => simp
 | cons k l ih =>
  rw [List.nodup_cons] at hn
  rw [List.map_cons, List.sum_cons, List.filter_cons]
  by_cases hk : k = 0
  ·rw [if_neg (by simpa using hk)]
   have : (l.filter fun k => k != 0) = l := by
    rw [List.filter_eq_self]
    intro z hz
    simp only [bne_iff_ne, ne_eq]
    intro e
    exact hn.1 (by rw [hk, ← e]; exact hz)
   rw [this, hk]
   omega
  ·rw [if_pos (by simpa using hk), List.map_cons, List.sum_cons]
   have := ih hn.2
   omega
theorem kid_mem {F : Fo} (hI : Inv F) {x : Int} {s : Sf} (hs : gt F x = some s) : ∀ k ∈ (un1 s.no.od).filter (fun k => k != 0), ∃ c, gt F k = some c ∧ c.par = x := fun k hk => by
 obtain ⟨h1, h2⟩ := List.mem_filter.1 hk
 exact hI.kid x s hs k (.inr (.inr h1)) (by simpa using h2)
theorem wlk_length {F : Fo} (hI : Inv F) (hN : Nof F) : ∀ (n : Nat) (x a b : Int), (wlk F n x a b).length ≤ dsc F x
 | 0, _, _, _ => Nat.zero_le _
 | n + 1, x, a, b => by
  unfold wlk
  split
  ·exact Nat.zero_le _
  ·rename_i s hs
   split
   ·exact Nat.zero_le _
   ·have hn := (hN x s hs).no
    rw [List.length_flatMap]
    refine Nat.le_trans (Nat.le_trans (sum_zero hn _ (by simp)) ?_) (kids_dsc hI.acy hs (nodup_filter_ne hn) (kid_mem hI hs))
    refine Nat.add_le_add_left (sum_map_le fun k hk => ?_) 1
    have hk0 : k ≠ 0 := by
     have := (List.mem_filter.1 hk).2
     simpa using this
    rw [if_neg hk0]
    exact wlk_length hI hN n k _ _
theorem nos_sf0 : Nos sf0 := ⟨by simp [sf0, sq0, un1], by simp [sf0, sq0, un1], by simp [sf0, sqA, un1]⟩
theorem Nof.turn {F : Fo} (h : Nof F) (id : Int) (f : Sf → Sf) (hf : ∀ s, gt F id = some s → Nos s → Nos (f s)) : Nof (upd F id f) := fun x s hs => by
 rw [gt_upd] at hs
 split at hs
 ·obtain ⟨t, ht, rfl⟩ := Option.map_eq_some_iff.1 hs
  exact hf t ht (h _ t ht)
 ·exact h x s hs
theorem nodup_out {id : Int} {l : List (List Int)} (h : (un1 l).Nodup) : (un1 (outL id l)).Nodup := h.sublist (List.Sublist.map _ List.filter_sublist)
theorem Nos.out {s : Sf} (h : Nos s) (id : Int) : Nos (outS id s) := ⟨nodup_out h.pe, nodup_out h.ca, nodup_out h.no⟩
theorem nodup_dr {id : Int} {l : List Int} (h : l.Nodup) : (dr id l).Nodup := h.sublist List.filter_sublist
theorem nodup_top {id : Int} {l : List Int} (h : l.Nodup) : (dr id l ++ [id]).Nodup := by
 rw [List.nodup_append]
 refine ⟨nodup_dr h, by simp, fun a ha b hb e => ?_⟩
 simp only [List.mem_singleton] at hb
 exact (mem_dr.1 ha).2 (by rw [e, hb])
theorem nodup_ins {l : List Int} {i : Nat} {z : Int} (h : l.Nodup) (hz : z ∉ l) : (ins l i z).Nodup := by
 have h1 : (z :: l).Nodup := List.nodup_cons.2 ⟨hz, h⟩
 refine (List.Perm.nodup_iff ?_).2 h1
 unfold ins
 refine List.perm_middle.trans ?_
 rw [List.take_append_drop]
theorem nodup_bes {l m : List Int} {id by_ : Int} {b : Nat} (h : l.Nodup) (hm : bes l id by_ b = some m) : m.Nodup := by
 unfold bes at hm
 split at hm
 ·cases hm
 ·obtain ⟨i, _, rfl⟩ := Option.map_eq_some_iff.1 hm
  exact nodup_ins (nodup_dr h) (fun hm => (mem_dr.1 hm).2 rfl)
theorem nodup_lat {s : Sf} (h : Nos s) : (un1 (lat s)).Nodup := by
 unfold lat
 cases s.pe.ord
 ·cases s.ca.ord
  ·exact h.no
  ·exact h.ca
 ·exact h.pe
theorem Nos.ord {s : Sf} (h : Nos s) {l : List Int} (hl : l.Nodup) : Nos (ordS (sg l) s) := ⟨by show (un1 (sg l)).Nodup; rw [un1_sg]; exact hl, h.ca, h.no⟩
theorem Nos.keep {s t : Sf} (h : Nos s) (h1 : t.pe.od = s.pe.od) (h2 : t.ca.od = s.ca.od) (h3 : t.no.od = s.no.od) : Nos t := ⟨by rw [h1]; exact h.pe, by rw [h2]; exact h.ca, by rw [h3]; exact h.no⟩
theorem mrg_nodup {a b : Sq} (ha : (un1 a.od).Nodup) (hb : (un1 b.od).Nodup) : (un1 (mrg a b).od).Nodup := by
 simp only [mrg]
 cases b.ord
 ·exact ha
 ·exact hb
theorem Nos.apls {s : Sf} (h : Nos s) : Nos (aplS s) := ⟨h.pe, by simp [aplS, sq0, un1], mrg_nodup (a := s.no) (b := s.ca) h.no h.ca⟩
theorem Nos.cacs {s : Sf} (h : Nos s) : Nos (cacS s) := ⟨by simp [cacS, sq0, un1], mrg_nodup (a := s.ca) (b := s.pe) h.ca h.pe, h.no⟩
theorem Nos.coms {s : Sf} (h : Nos s) : Nos (comS s) := by rw [coms_eq]; exact h.cacs.apls
theorem nof_nil : Nof [] := fun _ _ h => by cases h
theorem Nof.add {F : Fo} (h : Nof F) (id : Int) : Nof (addF F id) := by
 unfold addF
 split
 ·intro x s hs
  rw [gt_app] at hs
  split at hs
  ·exact h x s hs
  ·split at hs
   ·cases hs
    exact nos_sf0
   ·cases hs
 ·exact h
theorem Nof.uns {F : Fo} (h : Nof F) (id : Int) : Nof (unsF F id) := by
 unfold unsF
 split
 ·exact h
 ·split
  ·exact h
  ·exact (h.turn _ _ fun s _ hs => hs.out id).turn _ _ fun s _ hs => hs.keep rfl rfl rfl
theorem Nof.drp {F : Fo} (h : Nof F) (id : Int) : Nof (drpF F id) := by
 cases hs : gt F id with
 | none =>
  unfold drpF
  rw [hs]
  exact h
 | some s =>
  intro x t ht
  rw [drpF_gt hs] at ht
  split at ht
  ·cases ht
  ·obtain ⟨u, hu, rfl⟩ := Option.map_eq_some_iff.1 ht
   have := h.uns id x u hu
   unfold selfS
   split
   ·exact this.keep rfl rfl rfl
   ·exact this
theorem Nof.sub {F : Fo} (h : Nof F) (id p : Int) : Nof (subF F id p) := by
 unfold subF
 split
 ·have h1 : Nof (upd F id fun s => { s with par := p, syn := true }) := h.turn _ _ fun s _ hs => hs.keep rfl rfl rfl
  exact h1.turn _ _ fun s _ hs => (hs.ord (nodup_top (nodup_lat hs))).keep rfl rfl rfl
 ·exact h
theorem Nof.posn {F : Fo} (h : Nof F) (id x y : Int) : Nof (posF F id x y) := by
 unfold posF
 split
 ·exact h
 ·split
  ·exact h
  ·exact h.turn _ _ fun s _ hs => hs.keep rfl rfl rfl
theorem putL_nodup {F : Fo} (h : Nof F) {id by_ : Int} {b : Nat} {p : Int} {l : List Int} (hp : putL F id by_ b = some (p, l)) : l.Nodup := by
 unfold putL at hp
 split at hp
 ·cases hp
 ·split at hp
  ·cases hp
  ·split at hp
   ·cases hp
   ·rename_i q hq
    have hl := nodup_lat (h _ _ hq)
    split at hp
    ·obtain ⟨m', hm, e⟩ := Option.map_eq_some_iff.1 hp
     cases e
     exact nodup_bes hl hm
    ·split at hp
     ·cases hp
     ·obtain ⟨m', hm, e⟩ := Option.map_eq_some_iff.1 hp
      cases e
      exact nodup_bes hl hm
theorem Nof.put {F : Fo} (h : Nof F) (id by_ : Int) (b : Nat) : Nof (putF F id by_ b) := by
 unfold putF
 split
 ·exact h
 ·rename_i p l hp
  exact h.turn _ _ fun s _ hs => hs.ord (putL_nodup h hp)
theorem Nof.syn {F : Fo} (h : Nof F) (id : Int) (on : Bool) : Nof (synF F id on) := by
 unfold synF
 split
 ·exact h
 ·rename_i s hs
  split
  ·exact h
  ·intro x t ht
   rw [gt_st] at ht
   split at ht
   ·rw [hs] at ht
    cases ht
    exact (h _ _ hs).keep rfl rfl rfl
   ·exact h x t ht
theorem kds_nof : ∀ (n : Nat) (F : Fo) (x : Int) (l : List Int), Nof F → Nof (kds n F x l).1
 | 0, _, _, _, h => h
 | n + 1, F, x, l, h => by
  rw [kds_succ]
  split
  ·exact h
  ·have hst : ∀ (r : Fo × List Int) (k : Int), Nof r.1 → Nof (kst n r k).1 := fun r k hr => by
    unfold kst
    split
    ·exact hr
    ·split
     ·exact hr
     ·split
      ·exact kds_nof n _ _ _ hr
      ·exact kds_nof n _ _ _ (hr.turn _ _ fun s _ hs => hs.apls)
   have hf : ∀ (L : List Int) (r : Fo × List Int), Nof r.1 → Nof (L.foldl (kst n) r).1 := fun L => by
    induction L with
    | nil => exact fun r hr => hr
    | cons k L ih => exact fun r hr => ih _ (hst r k hr)
   exact hf _ (F, l) h
theorem Nof.com {F : Fo} (h : Nof F) (n : Nat) (id : Int) : Nof (comF n F id).1 := by
 rw [comF_eq]
 split
 ·exact h
 ·split
  ·exact h.turn _ _ fun s _ hs => hs.cacs
  ·exact kds_nof n _ _ _ (h.turn _ _ fun s _ hs => hs.coms)
theorem kds_length : ∀ (n : Nat) (F : Fo) (x : Int) (l : List Int), Inv F → Nof F → (gt F x).isSome = true → (kds n F x l).2.length + 1 ≤ l.length + dsc F x
 | 0, F, x, l, hI, _, hx => by
  obtain ⟨s, hs⟩ := Option.isSome_iff_exists.1 hx
  have := kids_dsc hI.acy hs (ks := []) List.nodup_nil (fun _ h => by cases h)
  simp only [List.map_nil, List.sum_nil] at this
  show l.length + 1 ≤ _
  omega
 | n + 1, F, x, l, hI, hN, hx => by
  obtain ⟨s, hs⟩ := Option.isSome_iff_exists.1 hx
  rw [kds_succ, hs]
  have hst : ∀ (r : Fo × List Int) (k : Int), Inv r.1 → Nof r.1 → Tre F r.1 → k ≠ 0 → (kst n r k).2.length ≤ r.2.length + dsc F k := fun r k hr hrn ht hk0 => by
   unfold kst
   split
   ·omega
   ·rename_i c hc
    split
    ·omega
    ·split
     ·have := kds_length n r.1 k r.2 hr hrn (by rw [hc]; rfl)
      rw [ht.dsc]
      omega
     ·have htu := tre_upd r.1 k aplS (fun _ => ⟨rfl, rfl⟩)
      obtain ⟨t, h1, _⟩ := htu.some hc
      have := kds_length n (upd r.1 k aplS) k (r.2 ++ [k]) (hr.apls k) (hrn.turn _ _ fun s _ hs => hs.apls) (by rw [h1]; rfl)
      rw [List.length_append, List.length_singleton, ← htu.dsc, ← ht.dsc] at this
      omega
  have hst0 : ∀ (r : Fo × List Int), Inv r.1 → kst n r 0 = r := fun r hr => by
   unfold kst
   rw [hr.zero]
  have hf : ∀ (K : List Int) (r : Fo × List Int), Inv r.1 → Nof r.1 → Tre F r.1 → (K.foldl (kst n) r).2.length ≤ r.2.length + ((K.filter fun k => k != 0).map (dsc F)).sum := fun K => by
   induction K with
   | nil => exact fun r _ _ _ => Nat.le_refl _
   | cons k K ih =>
    intro r hr hrn ht
    rw [List.foldl_cons]
    by_cases hk : k = 0
    ·rw [hk, hst0 r hr, List.filter_cons, if_neg (by simp)]
     exact ih r hr hrn ht
    ·rw [List.filter_cons, if_pos (by simpa using hk), List.map_cons, List.sum_cons]
     have h1 := hst r k hr hrn ht hk
     have hks : Inv (kst n r k).1 ∧ Tre r.1 (kst n r k).1 ∧ Nof (kst n r k).1 := by
      unfold kst
      split
      ·exact ⟨hr, Tre.refl _, hrn⟩
      ·split
       ·exact ⟨hr, Tre.refl _, hrn⟩
       ·split
        ·exact ⟨(kds_inv n _ _ _ hr).1, (kds_inv n _ _ _ hr).2, kds_nof n _ _ _ hrn⟩
        ·have h1 := kds_inv n (upd r.1 k aplS) k (r.2 ++ [k]) (hr.apls k)
         exact ⟨h1.1, (tre_upd r.1 k aplS (fun _ => ⟨rfl, rfl⟩)).trans h1.2, kds_nof n _ _ _ (hrn.turn _ _ fun s _ hs => hs.apls)⟩
     have h2 := ih _ hks.1 hks.2.2 (ht.trans hks.2.1)
     omega
  have h1 := hf (un1 s.no.od) (F, l) hI hN (Tre.refl F)
  have h2 := kids_dsc hI.acy hs (nodup_filter_ne (hN x s hs).no) (kid_mem hI hs)
  dsimp only at h1 ⊢
  omega
end
end Go.Proofs.YtdgknofpkafppaaGreatDoor
